/-
  The reference's Add of lists of paths.
-/
import Derived.Test.YtndedphkgkmckaaDoorPaRi
import Derived.Test.YtndedphkgkmckaaDoorPaAn
namespace Go.Proofs.YtndedphkgkmckaaDoor
open Go.RowKit
set_option linter.unusedSimpArgs false
set_option linter.unusedVariables false

theorem insS_mem {l : List ByteArray} {p x : ByteArray} : x ∈ insS l p ↔ x = p ∨ x ∈ l := by
  unfold insS
  split
  · next h =>
    constructor
    · exact Or.inr
    · rintro (rfl | h2)
      · exact (memS_iff _ _).1 h
      · exact h2
  · rw [List.mem_append, List.mem_cons]
    have e : x ∈ l ↔ x ∈ l.take (idxS l p) ∨ x ∈ l.drop (idxS l p) := by rw [← List.mem_append, List.take_append_drop]
    rw [e]
    constructor
    · rintro (h | h | h)
      · exact Or.inr (Or.inl h)
      · exact Or.inl h
      · exact Or.inr (Or.inr h)
    · rintro (h | h | h)
      · exact Or.inr (Or.inl h)
      · exact Or.inl h
      · exact Or.inr (Or.inr h)
theorem insS_len (l : List ByteArray) (p : ByteArray) : l.length ≤ (insS l p).length ∧ (insS l p).length ≤ l.length + 1 := by
  unfold insS
  split
  · omega
  · rw [List.length_append, List.length_cons, List.length_take, List.length_drop]; omega
theorem foldS_len : ∀ (qs l : List ByteArray), l.length ≤ (qs.foldl insS l).length ∧ (qs.foldl insS l).length ≤ l.length + qs.length
  | [], l => by simp
  | a :: t, l => by
    have h1 := insS_len l a
    have h2 := foldS_len t (insS l a)
    simp only [List.foldl_cons, List.length_cons]
    omega
theorem foldS_mem {x : ByteArray} : ∀ (qs l : List ByteArray), x ∈ qs.foldl insS l ↔ x ∈ qs ∨ x ∈ l
  | [], l => by simp
  | a :: t, l => by
    rw [List.foldl_cons, foldS_mem t, insS_mem, List.mem_cons]
    constructor
    · rintro (h | h | h)
      · exact Or.inl (Or.inr h)
      · exact Or.inl (Or.inl h)
      · exact Or.inr h
    · rintro ((h | h) | h)
      · exact Or.inr (Or.inl h)
      · exact Or.inl h
      · exact Or.inr (Or.inr h)
/-- The list with a path and all above it. -/
def addS (l : List ByteArray) (p : ByteArray) : List ByteArray := insS ((ancS p).foldl insS l) p
theorem anc_size {p x : ByteArray} (h : x ∈ ancS p) : x.size ≤ 10000 := by
  unfold ancS at h
  split at h
  · next l hl =>
    obtain ⟨i, _, rfl⟩ := List.mem_map.1 h
    exact path_size (names_take hl i)
  · cases h
theorem anc_len (p : ByteArray) : (ancS p).length ≤ 8 := by
  unfold ancS
  split
  · next l hl => have := (pathS_names hl).2.2; simpa using this
  · simp

set_option maxRecDepth 100000 in
set_option maxHeartbeats 1600000 in
theorem radd_no (v : Value) (xs : List ByteArray) (p : ByteArray) (w : World) (h : Strs w v xs) (hp : p.size ≤ 100000) (hn : namesS p = none) :
    Calls Tryd.prog 38 #[v, .string p] w fun e w' => e = .returned (.tuple #[v, .int .i64 6]) ∧ Kept (fun _ => False) w w' := by
  have hv := qvalid_any p hp w
  rw [hn] at hv
  have HV := Lib.hid hv
  obtain ⟨a, c, rfl, _, _⟩ := h.form
  generalize xs.length = n
  clear h hn hv
  go_enter Tryd.func38, Tryd.ntmps38
  go_wp2_with fail
  refine HV.out.mono ?_
  rintro e w1 ⟨rfl, k1⟩
  have K1 := Lib.hid k1
  clear k1
  go_wp2_with fail
  go_ret2
  exact ⟨rfl, K1.out⟩

set_option maxRecDepth 100000 in
set_option maxHeartbeats 3200000 in
theorem radd_ok (v : Value) (xs : List ByteArray) (p : ByteArray) (ys : List ByteArray) (w : World) (h : Strs w v xs) (hp : p.size ≤ 100000) (hn : namesS p = some ys) (h0 : 0 < xs.length) (hl : xs.length ≤ 50000) (hz : ∀ x ∈ xs, x.size ≤ 100000) :
    Calls Tryd.prog 38 #[v, .string p] w fun e w' => ∃ v', e = .returned (.tuple #[v', .int .i64 0]) ∧ Strs w' v' (addS xs p) ∧ Kept (fun _ => False) w w' := by
  have hv := qvalid_any p hp w
  rw [hn] at hv
  have HV := Lib.hid hv
  have HQ := Lib.hid (qanc_any p hp)
  have hal := anc_len p
  have haz : ∀ x ∈ ancS p, x.size ≤ 100000 := fun x hx => by have := anc_size hx; omega
  have HA : Hid (addS xs p = insS ((ancS p).foldl insS xs) p) := Lib.hid rfl
  generalize ancS p = qs at HQ hal haz HA
  have HAZ := Lib.hid haz; have HZ := Lib.hid hz; have HS := Lib.hid h
  have HF := Lib.hid (fun qs => foldS_len qs xs)
  have HFM := Lib.hid (fun x qs => foldS_mem (x := x) qs xs)
  obtain ⟨a, c, hvf, _, _⟩ := h.form
  have HVF := Lib.hid hvf
  clear hn hv haz hz h hvf
  go_enter Tryd.func38, Tryd.ntmps38
  go_wp2_with fail
  refine HV.out.mono ?_
  rintro e w1 ⟨rfl, k1⟩
  have K1 := Lib.hid k1
  clear k1
  go_wp2_with fail
  refine (HQ.out w1).mono ?_
  rintro e w2 ⟨av, rfl, hav, k2⟩
  have K2 := Lib.hid (K1.out.then k2)
  obtain ⟨aa, ac, haf, _, _⟩ := hav.form
  subst haf
  have HAV := Lib.hid hav
  have HS2 := Lib.hid (HS.out.kept K2.out (fun _ _ h => h))
  obtain ⟨n, hnn⟩ : ∃ n, n = qs.length := ⟨_, rfl⟩
  rw [← hnn] at HAV ⊢
  have HN := Lib.hid hnn
  have hn8 : n ≤ 8 := by omega
  clear hav k2 hnn hal
  go_wp2_with fail
  go_loopw [0, 15] (fun lv iv wr => ∃ k : Nat, k ≤ n ∧ iv = .int .i64 k ∧ Hid (Strs wr lv ((qs.take k).foldl insS xs)) ∧ Hid (Kept (fun _ => False) w2 wr)) (fun _ iv _ => n - (intOf iv).toNat)
  case atStart => exact ⟨0, by omega, rfl, HS2, Kept.refl _ _⟩
  case round =>
    obtain ⟨k, hk, rfl, hs, hkw⟩ := hrel
    have hF := HF.out (qs.take k)
    have hFM := fun x => HFM.out x (qs.take k)
    have htk : (qs.take k).length ≤ 8 := by rw [List.length_take]; omega
    have hsz : ∀ x ∈ (qs.take k).foldl insS xs, x.size ≤ 100000 := fun x hx => by
      rcases (hFM x).1 hx with h | h
      · exact HAZ.out x (List.mem_of_mem_take h)
      · exact HZ.out x h
    by_cases hlt : k < n
    · have l1 : (k : Int) < (n : Int) := by omega
      have l0 : (0 : Int) ≤ (k : Int) := by omega
      obtain ⟨g, off, rfl, _, hcell⟩ := (HAV.out.kept hkw.out (fun _ _ h => h)).at (k := k) (by have := HN.out; omega)
      have hxm : qs.getD k ⟨#[]⟩ ∈ qs := by rw [List.getD_eq_getElem?_getD, List.getElem?_eq_getElem (by have := HN.out; omega)]; exact List.getElem_mem _
      have HI := Lib.hid (rinsert_any _ _ (qs.getD k ⟨#[]⟩) wr hs.out (by omega) (by omega) hsz (HAZ.out _ hxm))
      have HST : Hid ((qs.take (k + 1)).foldl insS xs = insS ((qs.take k).foldl insS xs) (qs.getD k ⟨#[]⟩)) := by
        have hk2 : k < qs.length := by have := HN.out; omega
        show _ = _
        rw [List.take_succ_eq_append_getElem hk2, List.foldl_append]
        simp [List.getD, hk2]
      clear hF hFM htk hsz hxm
      generalize qs.getD k ⟨#[]⟩ = x at hcell HI HST
      go_wp2_with fail
      refine HI.out.mono ?_
      rintro e w3 ⟨v3, rfl, hs3, k3⟩
      have HS3 : Hid (Strs w3 v3 ((qs.take (k + 1)).foldl insS xs)) := by rw [HST.out]; exact hs3
      have HK3 := Lib.hid (hkw.out.then k3)
      clear hs3 k3
      go_wp2_with fail
      go_roundw
      case rel => first | exact ⟨k + 1, by omega, by go_num, HS3, HK3⟩ | ((repeat apply Exists.intro); exact ⟨⟨k + 1, by omega, by go_num, HS3, HK3⟩, rfl⟩)
      case measure => simp [intOf]; omega
    · obtain rfl : k = n := by omega
      have HI := Lib.hid (rinsert_any _ _ p wr hs.out (by omega) (by omega) hsz hp)
      have HFIN : Hid (insS ((qs.take k).foldl insS xs) p = addS xs p) := by
        show _ = _
        rw [HN.out, List.take_length, HA.out]
      clear hF hFM htk hsz
      go_wp2_with fail
      refine HI.out.mono ?_
      rintro e w3 ⟨v3, rfl, hs3, k3⟩
      have HS3 : Hid (Strs w3 v3 (addS xs p)) := by rw [← HFIN.out]; exact hs3
      have HK3 := Lib.hid ((K2.out.then hkw.out).then k3)
      clear hs3 k3
      go_wp2_with fail
      go_ret2
      exact ⟨_, rfl, HS3.out, HK3.out⟩
end Go.Proofs.YtndedphkgkmckaaDoor
