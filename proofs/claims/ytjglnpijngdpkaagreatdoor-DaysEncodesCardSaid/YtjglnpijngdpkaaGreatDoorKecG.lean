import Derived.Test.YtjglnpijngdpkaaGreatDoorGT
import Derived.Test.YtjglnpijngdpkaaGreatDoorGH
import Derived.Test.YtjglnpijngdpkaaGreatDoorGW
/-
  keccak.Tagged: the digest of a tag and parts.
-/
namespace Go.Proofs.YtjglnpijngdpkaaGreatDoor
open Go.RowKit

/-- The encodings of the first k parts. -/
def encN (F : Nat → List Nat) : Nat → List Nat
  | 0 => []
  | k + 1 => encN F k ++ (enc (F k).length ++ F k)
theorem encN_len {F : Nat → List Nat} {N : Nat} (h : ∀ i, i < N → (F i).length ≤ 1000) : ∀ k, k ≤ N → (encN F k).length ≤ 1010 * k
  | 0, _ => by simp [encN]
  | k + 1, hk => by
    have h1 := encN_len h k (by omega)
    have h2 := h k (by omega)
    have h3 := enc_len (v := (F k).length) (by omega)
    rw [encN, List.length_append, List.length_append, Nat.mul_add, Nat.mul_one]; omega
theorem encN_byte {F : Nat → List Nat} {N : Nat} (h : ∀ i, i < N → ∀ x ∈ F i, x < 256) : ∀ k, k ≤ N → ∀ x ∈ encN F k, x < 256
  | 0, _, x, hx => by simp [encN] at hx
  | k + 1, hk, x, hx => by
    rw [encN] at hx
    rcases List.mem_append.1 hx with hx | hx
    · exact encN_byte h k (by omega) x hx
    · rcases List.mem_append.1 hx with hx | hx
      · exact enc_byte _ x hx
      · exact h k (by omega) x hx

theorem strB_byte (s : ByteArray) : ∀ x ∈ strB s, x < 256 := by
  intro x hx
  simp only [strB, List.mem_map] at hx
  obtain ⟨u, _, rfl⟩ := hx
  exact u.toNat_lt

/-- What Tagged's loop keeps: the writer; the place of the result. -/
structure TagInv (w wr : World) (v : Value) (xs : List Nat) : Prop where
  wri : Wr wr (w.heap.size + 1) v (w.heap.size + 1) xs
  res : Blk wr w.heap.size 0 (List.replicate 32 0)
  kept : Kept (fun _ => False) w wr

theorem TagInv.step {w w1 w2 : World} {v v' : Value} {xs ys : List Nat} (h : TagInv w w1 v xs) (hw : Wr w2 (w.heap.size + 1) v' (w.heap.size + 1) ys) (hs : WStep w1 w2 (w.heap.size + 1) v v') : TagInv w w2 v' ys := by
  have hlt := h.wri.lt
  refine ⟨hw, h.res.kept hs.kept (by omega) (fun e => ?_), h.kept.trans hs.kept (fun _ _ h => h) (fun i hi e => ?_)⟩
  · rcases e with e | e
    · omega
    · have := (h.wri.own.lt _ e).1; omega
  · rcases e with e | e
    · omega
    · have := (h.wri.own.lt _ e).1; omega

theorem Loose.mono {w : World} {v : Value} {xs : List Nat} {B B' : Nat} (h : Loose w v xs B) (hB : B ≤ B') : Loose w v xs B' := by
  rcases h with ⟨h, hb⟩ | h
  · exact Or.inl ⟨h, fun k hk => Nat.lt_of_lt_of_le (hb k hk) hB⟩
  · exact Or.inr h

set_option maxRecDepth 100000 in
set_option maxHeartbeats 3200000 in
theorem tagged_any (s : ByteArray) (pv : Value) (f : Nat → Value) (F : Nat → List Nat) (N : Nat) (w : World) (hT : KTab w) (hl : LB w pv f F N w.heap.size) (hs : s.size ≤ 1000) (hN : N ≤ 8) (hF : ∀ i, i < N → (F i).length ≤ 1000) :
    Calls Tryz.prog 26 #[.string s, pv] w fun e w' => e = .returned (.agg (arr8 (digS ((enc s.size ++ strB s) ++ encN F N))).toArray) ∧ Kept (fun _ => False) w w' := by
  obtain ⟨a0, c0, hpv, hNc⟩ := hl.form
  have hby : ∀ i, i < N → ∀ x ∈ F i, x < 256 := fun i hi => by
    obtain ⟨a, c, e, _⟩ := hl.form
    have h := hl
    rw [e] at h
    obtain ⟨_, _, _, _, _, _, hb⟩ := h.at (k := i) hi
    exact hb
  have hlen := fun k hk => encN_len hF k hk
  have hbyt := fun k hk => encN_byte hby k hk
  have HL := Lib.hid hl; have HT := Lib.hid hT; have HLEN := Lib.hid hlen; have HBYT := Lib.hid hbyt; have HF := Lib.hid hF
  have h1 := enc_len (v := s.size) (by omega)
  have h2 := strB_length s
  have hbase : (enc s.size ++ strB s).length ≤ 1010 := by rw [List.length_append]; omega
  have hbb : ∀ x ∈ enc s.size ++ strB s, x < 256 := fun x hx => (List.mem_append.1 hx).elim (enc_byte _ x) (strB_byte s x)
  obtain ⟨base, hbs⟩ : ∃ base, base = enc s.size ++ strB s := ⟨_, rfl⟩
  rw [← hbs] at hbb hbase ⊢
  have HBB := Lib.hid hbb; have HBS := Lib.hid hbs
  clear hl hT hby hlen hbyt hF h1 h2 hbb hbs
  subst hpv
  go_enter Tryz.func26, Tryz.ntmps26
  have R0 := blk_new w (arr8 (List.replicate 32 0)).toArray 59 (List.replicate 32 0) (by simp)
  have HR0 := Lib.hid R0; clear R0
  go_wp2_with fail
  refine (newWriter_any _).mono ?_
  rintro e w1 ⟨rfl, hw1⟩
  have hinv : TagInv w w1 (.slice none 0 0) [] := by
    have h1 := wr_new (w.alloc (.cells (arr8 (List.replicate 32 0)).toArray 59)) (w.heap.size + 1) (by simp)
    have h2 := HR0.out.kept (Kept.alloc (fun _ => False) _ (.cells #[.slice none 0 0] 83)) (by simp) (fun h => h)
    rw [show (w.alloc (.cells (arr8 (List.replicate 32 0)).toArray 59)).heap.size = w.heap.size + 1 by simp] at h1
    subst hw1
    exact ⟨h1, h2, (Kept.alloc _ _ _).then (Kept.alloc _ _ _)⟩
  have HI := Lib.hid hinv
  clear hinv hw1 HR0
  go_wp2_with fail
  refine (string_any s w1 _ _ _ _ HI.out.wri (by simp) (by omega) (by have := HI.out.wri.lt; omega)).mono ?_
  rintro e w2 ⟨rfl, v2, hwr2, hs2⟩
  rw [List.nil_append] at hwr2
  have HI2 := Lib.hid (HI.out.step hwr2 hs2)
  rw [← HBS.out] at HI2
  clear hwr2 hs2 HI
  have HI3 : Hid (∃ v, TagInv w w2 v (base ++ encN F 0)) := ⟨v2, by rw [show encN F 0 = [] from rfl, List.append_nil]; exact HI2.out⟩
  clear HI2
  go_wp2_with fail
  go_loopw [14] (fun iv wr => ∃ k : Nat, k ≤ N ∧ iv = .int .i64 k ∧ Hid (∃ v, TagInv w wr v (base ++ encN F k))) (fun iv _ => N - (intOf iv).toNat)
  case atStart => exact ⟨0, by omega, rfl, HI3⟩
  case round =>
    obtain ⟨k, hk, rfl, hinv⟩ := hrel
    obtain ⟨v, hin⟩ := hinv.out
    have hel := HLEN.out k hk
    have htl : (base ++ encN F k).length ≤ 1010 + 1010 * k := by rw [List.length_append]; omega
    have HIN := Lib.hid hin
    clear hin hinv HI3
    by_cases hlt : k < N
    · have hl1 : (k : Int) < (N : Int) := by omega
      have hl0 : (0 : Int) ≤ (k : Int) := by omega
      obtain ⟨g, off, ha0, hg, hcell, hloose, _⟩ := (HL.out.kept HIN.out.kept (Nat.le_refl _)).at (k := k) hlt
      have hfl := HF.out k hlt
      subst ha0
      have HLO := Lib.hid hloose
      generalize f k = fk at hcell HLO
      obtain ⟨pa, pc, hpf⟩ := HLO.out.form
      clear hloose
      subst hpf
      go_wp2_with fail
      refine (wbytes_loose _ (F k) _ _ _ _ _ HIN.out.wri (HLO.out.mono (by omega)) (by omega) (by omega) (by have := HIN.out.wri.lt; omega)).mono ?_
      rintro e w3 ⟨rfl, v3, hwr3, hs3⟩
      have HI4 : Hid (∃ v, TagInv w w3 v (base ++ encN F (k + 1))) := ⟨v3, by rw [encN, ← List.append_assoc]; exact HIN.out.step hwr3 hs3⟩
      clear hwr3 hs3
      go_wp2_with fail
      go_roundw
      case rel => exact ⟨k + 1, by omega, by go_num, HI4⟩
      case measure => simp [intOf]; omega
    · obtain rfl : k = N := by omega
      have hxb : ∀ x ∈ base ++ encN F k, x < 256 := fun x hx => (List.mem_append.1 hx).elim (HBB.out x) (HBYT.out k (Nat.le_refl _) x)
      obtain ⟨xs, hxs⟩ : ∃ xs, xs = base ++ encN F k := ⟨_, rfl⟩
      rw [← hxs] at HIN htl hxb
      have HXB := Lib.hid hxb; have HXS := Lib.hid hxs; clear hxb hxs
      go_wp2_with fail
      refine (out_any _ _ _ xs HIN.out.wri.reads (by omega) HIN.out.wri.cell).mono ?_
      rintro e w4 ⟨v4, rfl, hf4, hk4⟩
      have K4 := HIN.out.kept.then hk4
      have HF4 := Lib.hid hf4.reads
      have HR4 := Lib.hid (HIN.out.res.kept hk4 (by have := HIN.out.wri.lt; omega) (fun h => h))
      have HK4 := Lib.hid K4
      have n4 : w.heap.size < w4.heap.size := by have := HIN.out.wri.lt; have := hk4.size; omega
      clear hf4 hk4 K4
      go_wp2_with fail
      refine (ksum_any w4 _ xs HF4.out HXB.out (HT.out.kept HK4.out (fun _ _ h => h)) (by omega)).mono ?_
      rintro e w9 ⟨rfl, k9⟩
      have R9 := HR4.out.kept k9 n4 (fun h => h)
      have K9 := HK4.out.then k9
      obtain ⟨dd, hdd⟩ : ∃ dd, dd = digS xs := ⟨_, rfl⟩
      have hdl : dd.length = 32 := by rw [hdd]; exact dig_length _
      rw [← hdd]
      obtain ⟨ds, hds⟩ : ∃ ds, ds = arr8 dd := ⟨_, rfl⟩
      have z1 : ∀ j, j < ds.length → (w9.cell? ⟨w.heap.size, 0 + j, none⟩).isSome = true := fun j hj => by
        rw [hds, arr8_length, hdl] at hj; rw [R9.cell j (by simpa using hj)]; rfl
      have z2 : ∀ j, j < ds.length → w9.frozen? ⟨w.heap.size, 0 + j, none⟩ = false := fun j hj => by
        rw [hds, arr8_length, hdl] at hj; exact R9.free j (by simpa using hj)
      have hsd : (Tryz.prog.info? 59).map (·.size) = some ds.length := by rw [hds, arr8_length, hdl]; exact size32
      have hfin := (R9.setCells (t := dd) (by simp [hdl])).get
      have K10 := K9.trans (Kept.setCells w.heap.size ds 0 w9) (T := fun _ => False) (fun _ _ h => h) (fun i hi e => by omega)
      have ho : ∀ v ∈ ds, v.oneCell' = true := by rw [hds]; exact arr8_one dd
      rw [← hds] at hfin
      rw [← hds]
      have Z1 := Lib.hid z1; have Z2 := Lib.hid z2; have HSD := Lib.hid hsd; have HFI := Lib.hid hfin; have HK10 := Lib.hid K10; have HO2 := Lib.hid ho
      have HDS := Lib.hid hds; have HDD := Lib.hid hdd
      clear z1 z2 hsd hfin K10 ho hds hdd R9 K9 k9 HR4 HK4 HF4 HIN
      go_wp2_with (first | (refine wpList_store_at rfl 59 _ _ rfl w.heap.size 0 ds rfl rfl Z1.out Z2.out HO2.out HSD.out ?_))
      refine bodyPost_ret_by (v := .agg ds.toArray) ?_ ?_ ?_
      · exact results_cell_at Tryz.results26 _ _ w.heap.size ds _ rfl HFI.out Tryz.underlying59 rfl HSD.out
      · rfl
      · exact ⟨by rw [← HXS.out, ← HDD.out, ← HDS.out], HK10.out⟩
end Go.Proofs.YtjglnpijngdpkaaGreatDoor
