/-
  The reference's PutBytes (as in KecRt) and Bytes of a list of names.
-/
import Derived.Test.YtmhfbcapmlofbaaNamEm
import Derived.Test.YtmhfbcapmlofbaaPut
import Derived.Test.YtmhfbcapmlofbaaAppR8
import Derived.Test.YtmhfbcapmlofbaaStrW
import Derived.Lib.ConvBytes
import Derived.Lib.SmallJoins
namespace Go.Proofs.Ytmhfbcapmlofbaa
open Go.RowKit Go.Joins

theorem kept_bytesWorld8 (w : World) (e : TypeId) (s : ByteArray) : Kept (fun _ => False) w (Lib.bytesWorld w e s) :=
  ⟨rfl, rfl, rfl, by rw [Lib.bytesWorld_size]; omega, fun k hk _ => Lib.bytesWorld_at_old w e s k hk⟩

theorem reads_bytesWorld8 (w : World) (e : TypeId) (s : ByteArray) (hs : s.size ≤ 1000000) : Reads (Lib.bytesWorld w e s) (.slice (some ⟨w.heap.size, 0, none⟩) s.size (grownCap w s.size 0 e)) (strB s) := by
  have hl := strB_length s
  refine Or.inr ⟨w.heap.size, 0, _, by rw [hl], by rw [hl]; exact grownCap_ge w s.size 0 e, grownCap_le_maxLen w s.size 0 e (by unfold maxLen; omega), by rw [Lib.bytesWorld_size]; omega, fun i hi => ?_⟩
  rw [hl] at hi
  have hi2 : i < s.data.size := hi
  rw [Nat.zero_add, Lib.bytesWorld_cell w e s i hi]
  simp [strB, List.getD, Array.getElem?_eq_getElem hi2]

set_option maxRecDepth 100000 in
set_option maxHeartbeats 800000 in
theorem putb8_any (p : Value) (ys : List Nat) (w : World) (hp : Reads w p ys) (hl : ys.length ≤ 100000000000000) :
    Calls Try.prog 37 #[p] w fun e w' => ∃ v', e = .returned v' ∧ Fresh w' w.heap.size v' (enc ys.length ++ ys) ∧ Kept (fun _ => False) w w' := by
  obtain ⟨i0, hi, hz0, hz1, hz2⟩ := info_parts info_u8
  obtain ⟨N, hN⟩ : ∃ N, N = ys.length := ⟨_, rfl⟩
  have hNl : N < 18446744073709551616 := by omega
  have hel := enc_len hNl
  have hep := enc_pos N
  rw [← hN]
  have hwN : IntKind.u64.wrap (N : Int) = (N : Int) := IntWalk.u64_in _ (by omega)
  have HNL := Lib.hid hNl
  have hNm : N ≤ 100000000000000 := by omega
  have HN := Lib.hid hN; clear hN
  rcases hp with ⟨rfl, rfl⟩ | ⟨g, off, cap, rfl, h1, h2, h3, h4⟩
  · have hN0 : N = 0 := by rw [HN.out]; rfl
    subst hN0
    clear hwN
    go_enter Try.func37, Try.ntmps37
    go_wp2_with fail
    refine (put_any 0 w HNL).mono ?_
    rintro e w1 ⟨v1, rfl, hf, hk⟩
    have HF := Lib.hid hf; clear hf
    obtain ⟨va, vc, hvf⟩ := own_form HF.out.own
    obtain ⟨L, hL⟩ : ∃ L, L = (enc 0).length := ⟨_, rfl⟩
    rw [← hL] at hvf
    have HL := Lib.hid hL; clear hL
    subst hvf
    go_wp2_with (at_builtin; refine wpList_append_own_none rfl _ _ _ rfl w.heap.size 5 i0 1 Try.underlying28 hi _ _ _ rfl HF.out.own rfl ?_)
    go_wp2
    go_ret
    refine ⟨_, rfl, ?_, hk⟩
    rw [List.append_nil]
    exact HF.out
  · rw [← HN.out] at h1 h4 ⊢
    have hnews : ∀ j u, (bv ys)[j]? = some u → w.cell? ((⟨g, off, none⟩ : Addr).add j) = some u := fun j u hu => by
      have hadd : (⟨g, off, none⟩ : Addr).add j = ⟨g, off + j, none⟩ := by unfold Addr.add; split <;> simp_all
      have hj : j < ys.length := by
        have := (List.getElem?_eq_some_iff.1 hu).1
        rwa [bv_length] at this
      rw [hadd, h4 j (by rw [HN.out]; exact hj), ← bv_getD ys j hj]; exact hu
    have HNE := Lib.hid hnews; clear hnews h4
    go_enter Try.func37, Try.ntmps37
    go_wp2_with fail
    refine (put_any N w HNL).mono ?_
    rintro e w1 ⟨v1, rfl, hf, hk⟩
    have HF := Lib.hid hf; clear hf
    have hsz := hk.size
    have HN1 : Hid (∀ j u, (bv ys)[j]? = some u → w1.cell? ((⟨g, off, none⟩ : Addr).add j) = some u) := fun j u hu => by
      have hadd : ((⟨g, off, none⟩ : Addr).add j).block = g := by unfold Addr.add; split <;> simp_all
      rw [hk.cell (p := (⟨g, off, none⟩ : Addr).add j) (by rw [hadd]; exact h3) (fun h => h)]
      exact HNE.out j u hu
    go_wp2_with (at_builtin; refine wpList_append_own_at _ rfl _ _ _ rfl w.heap.size 5 i0 _ 1 1 Try.underlying28 hi hz0 hz1 hz2 rfl (by omega) _ _ _ rfl HF.out.own ⟨g, off, none⟩ N cap (bv ys) rfl (by simp [bv_length, ← HN.out]) HN1.out (bv_oneCell _) (by unfold maxLen; omega) (by omega) (by omega) ?_)
    intro v' w2 hown hgrow _ hat
    have HO := Lib.hid hown; clear hown
    have hk2 : Kept (fun _ => False) w w2 := hk.trans (Kept.ofGrown (S := fun k => w.heap.size ≤ k) hgrow (fun k e => HF.out.block k e)) (fun _ _ h => h) (fun i hi e => by omega)
    clear hgrow hat
    go_wp2
    go_ret
    refine ⟨_, rfl, ⟨?_, fun k hk => (HO.out.lt k hk).1⟩, hk2⟩
    have := HO.out
    rw [← bv_append] at this
    rw [List.length_append, ← HN.out]
    exact this


/-- What the loop of Bytes keeps: all encodings so far. -/
structure RbI (w wr : World) (v : Value) (xs : List Nat) : Prop where
  row : Fresh wr w.heap.size v xs
  kept : Kept (fun _ => False) w wr

theorem encL_len1 : ∀ xs : List ByteArray, (∀ x ∈ xs, x.size ≤ 13) → (encL xs).length ≤ 23 * xs.length
  | [], _ => by simp [encL]
  | x :: xs, h => by
    have ih := encL_len1 xs (fun y hy => h y (List.mem_cons_of_mem _ hy))
    have h1 := h x List.mem_cons_self
    have h2 := enc_len (v := x.size) (by omega)
    have h3 := strB_length x
    rw [encL, List.length_append, List.length_append, List.length_cons]; omega

set_option maxRecDepth 100000 in
set_option maxHeartbeats 3200000 in
theorem rbytes8_any (v : Value) (ys : List ByteArray) (w : World) (h : Strs w v ys) (hs : ∀ x ∈ ys, x.size ≤ 13) (hn : ys.length ≤ 1000) :
    Calls Try.prog 16 #[v] w fun e w' => ∃ v', e = .returned v' ∧ Fresh w' w.heap.size v' (enc ys.length ++ encL ys) ∧ Kept (fun _ => False) w w' := by
  obtain ⟨a, c, rfl, hc, hm⟩ := h.form
  unfold maxLen at hm
  have HS := Lib.hid h; have HSZ := Lib.hid hs
  have htk : ∀ k, (encL (ys.take k)).length ≤ 23000 := fun k => by
    have h1 := encL_len1 (ys.take k) (fun x hx => hs x (List.mem_of_mem_take hx))
    have h2 : (ys.take k).length ≤ 1000 := by rw [List.length_take]; omega
    omega
  obtain ⟨n, hnn⟩ : ∃ n, n = ys.length := ⟨_, rfl⟩
  rw [← hnn] at HS hn ⊢
  have HN := Lib.hid hnn; have HTK := Lib.hid htk
  have hwN : IntKind.u64.wrap (n : Int) = (n : Int) := IntWalk.u64_in _ (by omega)
  have HP := Lib.hid (put_any n w (by show n < 18446744073709551616; omega))
  have hel := enc_len (v := n) (by omega)
  obtain ⟨base, hbs⟩ : ∃ base, base = enc n := ⟨_, rfl⟩
  rw [← hbs] at HP hel ⊢
  clear h hs htk hnn hbs hc hm
  go_enter Try.func16, Try.ntmps16
  go_wp2_with fail
  refine HP.out.mono ?_
  rintro e w1 ⟨v1, rfl, hf1, hk1⟩
  have HI1 : Hid (∃ v, v = v1 ∧ RbI w w1 v (base ++ encL (ys.take 0))) := ⟨v1, rfl, by rw [List.take_zero, encL, List.append_nil]; exact ⟨hf1, hk1⟩⟩
  clear hf1 hk1 HP
  go_wp2_with fail
  clear hwN
  go_loopw [3, 12] (fun vv iv wr => ∃ k : Nat, k ≤ n ∧ iv = .int .i64 k ∧ Hid (∃ v, v = vv ∧ RbI w wr v (base ++ encL (ys.take k)))) (fun _ iv _ => n - (intOf iv).toNat)
  case atStart => exact ⟨0, by omega, rfl, HI1⟩
  case round =>
    obtain ⟨k, hk, rfl, hinv⟩ := hrel
    obtain ⟨v, rfl, hin⟩ := hinv.out
    have hel2 := HTK.out k
    have htl : (base ++ encL (ys.take k)).length ≤ 23010 := by rw [List.length_append]; omega
    have HIN := Lib.hid hin
    clear hin hinv HI1
    by_cases hlt : k < n
    · have hl1 : (k : Int) < (n : Int) := by omega
      have hl0 : (0 : Int) ≤ (k : Int) := by omega
      have hkl : k < ys.length := by have := HN.out; omega
      obtain ⟨gy, oy, rfl, _, hcell⟩ := (HS.out.kept HIN.out.kept (fun _ _ h => h)).at (k := k) hkl
      have hsz : (ys.getD k ⟨#[]⟩).size ≤ 13 := HSZ.out _ (by simp [List.getD, hkl])
      have het := encL_take ys k hkl
      obtain ⟨s, hs⟩ : ∃ s, s = ys.getD k ⟨#[]⟩ := ⟨_, rfl⟩
      rw [← hs] at hcell hsz het
      have HET := Lib.hid het
      clear het hs hkl
      have kc := fun (W : World) => Lib.run_convert_string_bytes (P := Try.prog) W 9 28 5 s Try.underlying9 Try.underlying28 Try.underlying5
      have hsl := strB_length s
      have he4 := enc_len (v := s.size) (by omega)
      go_wp2_with fail
      clear kc
      have k1 := kept_bytesWorld8 wr 5 s
      have r1 := reads_bytesWorld8 wr 5 s (by omega)
      have HK1 := Lib.hid k1; have HR1 := Lib.hid r1
      clear k1 r1
      generalize Lib.bytesWorld wr 5 s = w2 at HK1 HR1 ⊢
      generalize grownCap wr s.size 0 5 = cap1 at HR1 ⊢
      refine (putb8_any _ (strB s) w2 HR1.out (by omega)).mono ?_
      rw [hsl]
      rintro e w3 ⟨v3, rfl, hf3, hk3⟩
      have hkk := HK1.out.then hk3
      have hkw3 := HIN.out.kept.then hkk
      have hrow3 : Fresh w3 w.heap.size v (base ++ encL (ys.take k)) := ⟨hkk.owns HIN.out.row.own (fun _ _ h => h), HIN.out.row.block⟩
      obtain ⟨a4, c4, w4, r4, f4, k4⟩ := append_reads_run hrow3 hf3.reads (by have h7 : (enc s.size ++ strB s).length = (enc s.size).length + (strB s).length := List.length_append; omega) hkw3.size
      have hk4 : Kept (fun _ => False) w w4 := hkw3.trans k4 (fun _ _ h => h) (fun j hj e => by have := hrow3.block j e; omega)
      have happ : (base ++ encL (ys.take k)) ++ (enc s.size ++ strB s) = base ++ encL (ys.take (k + 1)) := by rw [HET.out]; simp only [List.append_assoc]
      rw [happ] at r4 f4
      have HI4 : Hid (∃ v, v = .slice a4 (base ++ encL (ys.take (k + 1))).length c4 ∧ RbI w w4 v (base ++ encL (ys.take (k + 1)))) := ⟨_, rfl, f4, hk4⟩
      have R4 := Lib.hid r4
      clear hf3 hk3 hkk hkw3 hrow3 r4 f4 k4 hk4 happ HIN HET HK1 HR1
      generalize (base ++ encL (ys.take (k + 1))).length = q at R4 HI4
      go_wp2_with (at_builtin; refine wpList_append_run (by rfl) _ _ _ _ rfl _ _ rfl rfl R4.out ?_)
      go_roundw
      case rel => exact ⟨k + 1, by omega, by go_num, HI4⟩
      case measure => simp [intOf]; omega
    · obtain rfl : k = n := by omega
      have hall : ys.take k = ys := List.take_of_length_le (by have := HN.out; omega)
      rw [hall] at HIN
      clear hall hlt
      go_wp2_with fail
      go_ret
      exact ⟨_, rfl, HIN.out.row, HIN.out.kept⟩
end Go.Proofs.Ytmhfbcapmlofbaa
