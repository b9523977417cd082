/-
  arbacref02.PutBytes of bytes that lie loose (as in RefPut and Loose); []byte(s) of any string; arbacref03.Tagged: the digest of the encodings of a tag and of parts.
-/
import Derived.Test.YtncieckanngodaaDoorKecG
import Derived.Test.YtncieckanngodaaDoorPut
import Derived.Test.YtncieckanngodaaDoorLooW
import Derived.Test.YtncieckanngodaaDoorStrW
import Derived.Test.YtncieckanngodaaDoorAppR
import Derived.Test.YtncieckanngodaaDoorKecSu
import Derived.Test.YtncieckanngodaaDoorKecRd
import Derived.Lib.ConvBytes
import Derived.Lib.SmallJoins
namespace Go.Proofs.YtncieckanngodaaDoor
open Go.RowKit Go.Joins

theorem kept_bytesWorld (w : World) (e : TypeId) (s : ByteArray) : Kept (fun _ => False) w (Lib.bytesWorld w e s) :=
  ⟨rfl, rfl, rfl, by rw [Lib.bytesWorld_size]; omega, fun k hk _ => Lib.bytesWorld_at_old w e s k hk⟩

theorem reads_bytesWorld (w : World) (e : TypeId) (s : ByteArray) (hs : s.size ≤ 1000000) : Reads (Lib.bytesWorld w e s) (.slice (some ⟨w.heap.size, 0, none⟩) s.size (grownCap w s.size 0 e)) (strB s) := by
  have hl := strB_length s
  refine Or.inr ⟨w.heap.size, 0, _, by rw [hl], by rw [hl]; exact grownCap_ge w s.size 0 e, grownCap_le_maxLen w s.size 0 e (by unfold maxLen; omega), by rw [Lib.bytesWorld_size]; omega, fun i hi => ?_⟩
  rw [hl] at hi
  have hi2 : i < s.data.size := hi
  rw [Nat.zero_add, Lib.bytesWorld_cell w e s i hi]
  simp [strB, List.getD, Array.getElem?_eq_getElem hi2]

set_option maxRecDepth 100000 in
set_option maxHeartbeats 800000 in
theorem putbytes_any (p : Value) (ys : List Nat) (w : World) (hp : Reads w p ys) (hl : ys.length ≤ 100000000000000) :
    Calls Tryd.prog 42 #[p] w fun e w' => ∃ v', e = .returned v' ∧ Fresh w' w.heap.size v' (enc ys.length ++ ys) ∧ Kept (fun _ => False) w w' := by
  obtain ⟨i0, hi, hz0, hz1, hz2⟩ := info_parts info_u8
  obtain ⟨N, hN⟩ : ∃ N, N = ys.length := ⟨_, rfl⟩
  have hNl : N < 18446744073709551616 := by omega
  have hel := enc_len hNl
  have hep := enc_pos N
  rw [← hN]
  have hwN : IntKind.u64.wrap (N : Int) = (N : Int) := IntWalk.u64_in _ (by omega)
  have HNL := Lib.hid hNl
  have hNm : N ≤ 100000000000000 := by omega
  have HN := Lib.hid hN; clear hN
  rcases hp with ⟨rfl, rfl⟩ | ⟨g, off, cap, rfl, h1, h2, h3, h4⟩
  · have hN0 : N = 0 := by rw [HN.out]; rfl
    subst hN0
    clear hwN
    go_enter Tryd.func42, Tryd.ntmps42
    go_wp2_with fail
    refine (put_any 0 w HNL).mono ?_
    rintro e w1 ⟨v1, rfl, hf, hk⟩
    have HF := Lib.hid hf; clear hf
    obtain ⟨va, vc, hvf⟩ := own_form HF.out.own
    obtain ⟨L, hL⟩ : ∃ L, L = (enc 0).length := ⟨_, rfl⟩
    rw [← hL] at hvf
    have HL := Lib.hid hL; clear hL
    subst hvf
    go_wp2_with (at_builtin; refine wpList_append_own_none rfl _ _ _ rfl w.heap.size 5 i0 1 Tryd.underlying26 hi _ _ _ rfl HF.out.own rfl ?_)
    go_wp2
    go_ret
    refine ⟨_, rfl, ?_, hk⟩
    rw [List.append_nil]
    exact HF.out
  · rw [← HN.out] at h1 h4 ⊢
    have hnews : ∀ j u, (bv ys)[j]? = some u → w.cell? ((⟨g, off, none⟩ : Addr).add j) = some u := fun j u hu => by
      have hadd : (⟨g, off, none⟩ : Addr).add j = ⟨g, off + j, none⟩ := by unfold Addr.add; split <;> simp_all
      have hj : j < ys.length := by
        have := (List.getElem?_eq_some_iff.1 hu).1
        rwa [bv_length] at this
      rw [hadd, h4 j (by rw [HN.out]; exact hj), ← bv_getD ys j hj]; exact hu
    have HNE := Lib.hid hnews; clear hnews h4
    go_enter Tryd.func42, Tryd.ntmps42
    go_wp2_with fail
    refine (put_any N w HNL).mono ?_
    rintro e w1 ⟨v1, rfl, hf, hk⟩
    have HF := Lib.hid hf; clear hf
    have hsz := hk.size
    have HN1 : Hid (∀ j u, (bv ys)[j]? = some u → w1.cell? ((⟨g, off, none⟩ : Addr).add j) = some u) := fun j u hu => by
      have hadd : ((⟨g, off, none⟩ : Addr).add j).block = g := by unfold Addr.add; split <;> simp_all
      rw [hk.cell (p := (⟨g, off, none⟩ : Addr).add j) (by rw [hadd]; exact h3) (fun h => h)]
      exact HNE.out j u hu
    go_wp2_with (at_builtin; refine wpList_append_own_at _ rfl _ _ _ rfl w.heap.size 5 i0 _ 1 1 Tryd.underlying26 hi hz0 hz1 hz2 rfl (by omega) _ _ _ rfl HF.out.own ⟨g, off, none⟩ N cap (bv ys) rfl (by simp [bv_length, ← HN.out]) HN1.out (bv_oneCell _) (by unfold maxLen; omega) (by omega) (by omega) ?_)
    intro v' w2 hown hgrow _ hat
    have HO := Lib.hid hown; clear hown
    have hk2 : Kept (fun _ => False) w w2 := hk.trans (Kept.ofGrown (S := fun k => w.heap.size ≤ k) hgrow (fun k e => HF.out.block k e)) (fun _ _ h => h) (fun i hi e => by omega)
    clear hgrow hat
    go_wp2
    go_ret
    refine ⟨_, rfl, ⟨?_, fun k hk => (HO.out.lt k hk).1⟩, hk2⟩
    have := HO.out
    rw [← bv_append] at this
    rw [List.length_append, ← HN.out]
    exact this

set_option maxRecDepth 100000 in
set_option maxHeartbeats 800000 in
theorem putbytes_empty (x : Addr) (w : World) :
    Calls Tryd.prog 42 #[.slice (some x) 0 0] w fun e w' => ∃ v', e = .returned v' ∧ Fresh w' w.heap.size v' (enc 0 ++ []) ∧ Kept (fun _ => False) w w' := by
  obtain ⟨i0, hi, hz0, hz1, hz2⟩ := info_parts info_u8
  have hel := enc_len (v := 0) (by omega)
  have hep := enc_pos 0
  go_enter Tryd.func42, Tryd.ntmps42
  go_wp2_with fail
  refine (put_any 0 w (by show 0 < 18446744073709551616; omega)).mono ?_
  rintro e w1 ⟨v1, rfl, hf, hk⟩
  have HF := Lib.hid hf; clear hf
  have hsz := hk.size
  go_wp2_with (at_builtin; refine wpList_append_own_at _ rfl _ _ _ rfl w.heap.size 5 i0 _ 1 1 Tryd.underlying26 hi hz0 hz1 hz2 rfl (by omega) _ _ _ rfl HF.out.own x 0 0 [] rfl rfl (by intro j u hu; simp at hu) (by simp) (by unfold maxLen; omega) (by omega) (by omega) ?_)
  intro v' w2 hown hgrow _ hat
  have HO := Lib.hid hown; clear hown
  have hk2 : Kept (fun _ => False) w w2 := hk.trans (Kept.ofGrown (S := fun k => w.heap.size ≤ k) hgrow (fun k e => HF.out.block k e)) (fun _ _ h => h) (fun i hi e => by omega)
  clear hgrow hat
  go_wp2
  go_ret
  refine ⟨_, rfl, ⟨?_, fun k hk => (HO.out.lt k hk).1⟩, hk2⟩
  have := HO.out
  simpa [bv] using this

theorem putbytes_loose (p : Value) (ys : List Nat) (w : World) (B : Nat) (hp : Loose w p ys B) (hl : ys.length ≤ 100000000000000) :
    Calls Tryd.prog 42 #[p] w fun e w' => ∃ v', e = .returned v' ∧ Fresh w' w.heap.size v' (enc ys.length ++ ys) ∧ Kept (fun _ => False) w w' := by
  rcases hp with ⟨hp, _⟩ | ⟨x, rfl, rfl⟩
  · exact putbytes_any p ys w hp hl
  · exact putbytes_empty x w

theorem round_okT : RoundOk := fun W g s c h25 hb h hg hc => round_any W g 0 25 c s h25 hb h hg hc

/-- What the loop keeps: all encodings so far. -/
structure RtInv (w wr : World) (v : Value) (xs : List Nat) : Prop where
  row : Fresh wr (w.heap.size + 1) v xs
  res : Blk wr w.heap.size 0 (List.replicate 32 0)
  kept : Kept (fun _ => False) w wr
  size : w.heap.size + 1 ≤ wr.heap.size

set_option maxRecDepth 100000 in
set_option maxHeartbeats 3200000 in
theorem rtagged_any (s : ByteArray) (pv : Value) (f : Nat → Value) (F : Nat → List Nat) (N : Nat) (w : World) (hl : LB w pv f F N w.heap.size) (hs : s.size ≤ 1000) (hN : N ≤ 8) (hF : ∀ i, i < N → (F i).length ≤ 1000) :
    Calls Tryd.prog 19 #[.string s, pv] w fun e w' => e = .returned (.agg (arr8 (digS ((enc s.size ++ strB s) ++ encN F N))).toArray) ∧ Kept (fun _ => False) w w' := by
  obtain ⟨a0, c0, hpv, hNc⟩ := hl.form
  have hby : ∀ i, i < N → ∀ x ∈ F i, x < 256 := fun i hi => by
    obtain ⟨a, c, e, _⟩ := hl.form
    have h := hl
    rw [e] at h
    obtain ⟨_, _, _, _, _, _, hb⟩ := h.at (k := i) hi
    exact hb
  have hlen := fun k hk => encN_len hF k hk
  have hbyt := fun k hk => encN_byte hby k hk
  have HL := Lib.hid hl; have HLEN := Lib.hid hlen; have HBYT := Lib.hid hbyt; have HF := Lib.hid hF
  have h1 := enc_len (v := s.size) (by omega)
  have h2 := strB_length s
  have hbase : (enc s.size ++ strB s).length ≤ 1010 := by rw [List.length_append]; omega
  have hbb : ∀ x ∈ enc s.size ++ strB s, x < 256 := fun x hx => (List.mem_append.1 hx).elim (enc_byte _ x) (strB_byte s x)
  obtain ⟨base, hbs⟩ : ∃ base, base = enc s.size ++ strB s := ⟨_, rfl⟩
  rw [← hbs] at hbb hbase ⊢
  have HBB := Lib.hid hbb; have HBS := Lib.hid hbs
  have kc := fun (W : World) => Lib.run_convert_string_bytes (P := Tryd.prog) W 9 26 5 s Tryd.underlying9 Tryd.underlying26 Tryd.underlying5
  clear hl hby hlen hbyt hF h1 hbb hbs
  subst hpv
  go_enter Tryd.func19, Tryd.ntmps19
  have kA := Kept.alloc (fun _ => False) w (.cells (arr8 (List.replicate 32 0)).toArray 31)
  have bA : Blk (w.alloc (.cells (arr8 (List.replicate 32 0)).toArray 31)) w.heap.size 0 (List.replicate 32 0) := blk_new w _ _ _ rfl
  have sA : (w.alloc (.cells (arr8 (List.replicate 32 0)).toArray 31)).heap.size = w.heap.size + 1 := by simp
  have KA := Lib.hid kA; have BA := Lib.hid bA; have SA := Lib.hid sA
  clear kA bA sA
  go_wp2_with fail
  clear kc
  generalize hwA : w.alloc (.cells (arr8 (List.replicate 32 0)).toArray 31) = wA at KA BA SA
  try rw [show w.alloc (.cells #[.int .u8 0, .int .u8 0, .int .u8 0, .int .u8 0, .int .u8 0, .int .u8 0, .int .u8 0, .int .u8 0, .int .u8 0, .int .u8 0, .int .u8 0, .int .u8 0, .int .u8 0, .int .u8 0, .int .u8 0, .int .u8 0, .int .u8 0, .int .u8 0, .int .u8 0, .int .u8 0, .int .u8 0, .int .u8 0, .int .u8 0, .int .u8 0, .int .u8 0, .int .u8 0, .int .u8 0, .int .u8 0, .int .u8 0, .int .u8 0, .int .u8 0, .int .u8 0] 31) = wA from hwA]
  clear hwA
  have k1 := KA.out.then (kept_bytesWorld wA 5 s)
  have b1 := BA.out.kept (kept_bytesWorld wA 5 s) (by rw [SA.out]; omega) (fun h => h)
  have r1 := reads_bytesWorld wA 5 s (by omega)
  have s1 : w.heap.size + 1 ≤ (Lib.bytesWorld wA 5 s).heap.size := by rw [Lib.bytesWorld_size, SA.out]; omega
  rw [SA.out] at r1
  have BB := Lib.hid b1; have K1 := Lib.hid k1; have R1 := Lib.hid r1
  clear k1 b1 r1
  generalize Lib.bytesWorld wA 5 s = w1 at K1 BB R1 s1 ⊢
  generalize grownCap wA s.size 0 5 = cap1 at R1 ⊢
  refine (putbytes_any _ (strB s) w1 R1.out (by omega)).mono ?_
  rw [h2]
  rintro e w2 ⟨v2, rfl, hf2, hk2⟩
  have HI : Hid (∃ v, v = v2 ∧ RtInv w w2 v (base ++ encN F 0)) := ⟨v2, rfl, by rw [HBS.out, show encN F 0 = [] from rfl, List.append_nil]; exact ⟨⟨ownsRow_le hf2.own s1, fun k hk => Nat.le_trans s1 (hf2.block k hk)⟩, BB.out.kept hk2 (by omega) (fun h => h), K1.out.then hk2, Nat.le_trans s1 hk2.size⟩⟩
  clear hf2 hk2 h2 s1
  go_wp2_with fail
  go_loopw [5, 13] (fun vv iv wr => ∃ k : Nat, k ≤ N ∧ iv = .int .i64 k ∧ Hid (∃ v, v = vv ∧ RtInv w wr v (base ++ encN F k))) (fun _ iv _ => N - (intOf iv).toNat)
  case atStart => exact ⟨0, by omega, rfl, HI⟩
  case round =>
    obtain ⟨k, hk, rfl, hinv⟩ := hrel
    obtain ⟨v, rfl, hin⟩ := hinv.out
    have hel := HLEN.out k hk
    have htl : (base ++ encN F k).length ≤ 1010 + 1010 * k := by rw [List.length_append]; omega
    have HIN := Lib.hid hin
    clear hin hinv HI
    by_cases hlt : k < N
    · have hl1 : (k : Int) < (N : Int) := by omega
      have hl0 : (0 : Int) ≤ (k : Int) := by omega
      obtain ⟨g, off, ha0, hg, hcell, hloose, _⟩ := (HL.out.kept HIN.out.kept (Nat.le_refl _)).at (k := k) hlt
      have hfl := HF.out k hlt
      subst ha0
      have HLO := Lib.hid hloose
      clear hloose
      generalize f k = fk at hcell HLO
      obtain ⟨pa, pc, hpf⟩ := HLO.out.form
      subst hpf
      have he4 := enc_len (v := (F k).length) (by omega)
      go_wp2_with fail
      refine (putbytes_loose _ (F k) wr w.heap.size HLO.out (by omega)).mono ?_
      rintro e w3 ⟨v3, rfl, hf3, hk3⟩
      have hkw3 := HIN.out.kept.then hk3
      have hrow3 : Fresh w3 (w.heap.size + 1) v (base ++ encN F k) := ⟨hk3.owns HIN.out.row.own (fun _ _ h => h), HIN.out.row.block⟩
      obtain ⟨a4, c4, w4, r4, f4, k4⟩ := append_reads_run hrow3 hf3.reads (by have h7 : (enc (F k).length ++ F k).length = (enc (F k).length).length + (F k).length := List.length_append; omega) (Nat.le_trans HIN.out.size hk3.size)
      have hk4 : Kept (fun _ => False) w w4 := hkw3.trans k4 (fun _ _ h => h) (fun j hj e => by have := hrow3.block j e; omega)
      have hb4 : Blk w4 w.heap.size 0 (List.replicate 32 0) := (HIN.out.res.kept hk3 (by have := HIN.out.size; omega) (fun h => h)).kept k4 (by have := HIN.out.size; have := hk3.size; omega) (fun e => by have := hrow3.block _ e; omega)
      have happ : (base ++ encN F k) ++ (enc (F k).length ++ F k) = base ++ encN F (k + 1) := by rw [encN]; simp only [List.append_assoc]
      rw [happ] at r4 f4
      have HI4 : Hid (∃ v, v = .slice a4 (base ++ encN F (k + 1)).length c4 ∧ RtInv w w4 v (base ++ encN F (k + 1))) := ⟨_, rfl, f4, hb4, hk4, Nat.le_trans (Nat.le_trans HIN.out.size hk3.size) k4.size⟩
      have R4 := Lib.hid r4
      clear hf3 hk3 hkw3 hrow3 r4 f4 k4 hk4 hb4 happ HIN HLO
      generalize (base ++ encN F (k + 1)).length = q at R4 HI4
      go_wp2_with (at_builtin; refine wpList_append_run (by rfl) _ _ _ _ rfl _ _ rfl rfl R4.out ?_)
      go_roundw
      case rel => exact ⟨k + 1, by omega, by go_num, HI4⟩
      case measure => simp [intOf]; omega
    · obtain rfl : k = N := by omega
      have hxb : ∀ x ∈ base ++ encN F k, x < 256 := fun x hx => (List.mem_append.1 hx).elim (HBB.out x) (HBYT.out k (Nat.le_refl _) x)
      obtain ⟨xs, hxs⟩ : ∃ xs, xs = base ++ encN F k := ⟨_, rfl⟩
      rw [← hxs] at HIN htl hxb
      have HXB := Lib.hid hxb; have HXS := Lib.hid hxs; clear hxb hxs
      go_wp2_with fail
      refine (sum_of round_okT v xs wr HIN.out.row.reads HXB.out (by omega)).mono ?_
      rintro e w9 ⟨rfl, k9⟩
      have R9 := HIN.out.res.kept k9 (by have := HIN.out.size; omega) (fun h => h)
      have K9 := HIN.out.kept.then k9
      obtain ⟨dd, hdd⟩ : ∃ dd, dd = digS xs := ⟨_, rfl⟩
      have hdl : dd.length = 32 := by rw [hdd]; exact dig_length _
      rw [← hdd]
      obtain ⟨ds, hds⟩ : ∃ ds, ds = arr8 dd := ⟨_, rfl⟩
      have z1 : ∀ j, j < ds.length → (w9.cell? ⟨w.heap.size, 0 + j, none⟩).isSome = true := fun j hj => by
        rw [hds, arr8_length, hdl] at hj; rw [R9.cell j (by simpa using hj)]; rfl
      have z2 : ∀ j, j < ds.length → w9.frozen? ⟨w.heap.size, 0 + j, none⟩ = false := fun j hj => by
        rw [hds, arr8_length, hdl] at hj; exact R9.free j (by simpa using hj)
      have hsd : (Tryd.prog.info? 31).map (·.size) = some ds.length := by rw [hds, arr8_length, hdl]; kernel_rfl
      have hfin := (R9.setCells (t := dd) (by simp [hdl])).get
      have K10 := K9.trans (Kept.setCells w.heap.size ds 0 w9) (T := fun _ => False) (fun _ _ h => h) (fun i hi e => by omega)
      have ho : ∀ v ∈ ds, v.oneCell' = true := by rw [hds]; exact arr8_one dd
      rw [← hds] at hfin
      rw [← hds]
      have Z1 := Lib.hid z1; have Z2 := Lib.hid z2; have HSD := Lib.hid hsd; have HFI := Lib.hid hfin; have HK10 := Lib.hid K10; have HO2 := Lib.hid ho
      have HDS := Lib.hid hds; have HDD := Lib.hid hdd
      clear z1 z2 hsd hfin K10 ho hds hdd R9 K9 k9 HIN
      go_wp2_with (first | (refine wpList_store_at rfl 31 _ _ rfl w.heap.size 0 ds rfl rfl Z1.out Z2.out HO2.out HSD.out ?_))
      refine bodyPost_ret_by (v := .agg ds.toArray) ?_ ?_ ?_
      · exact results_cell_at Tryd.results19 _ _ w.heap.size ds _ rfl HFI.out Tryd.underlying31 rfl HSD.out
      · rfl
      · exact ⟨by rw [← HXS.out, ← HDD.out, ← HDS.out], HK10.out⟩
end Go.Proofs.YtncieckanngodaaDoor
