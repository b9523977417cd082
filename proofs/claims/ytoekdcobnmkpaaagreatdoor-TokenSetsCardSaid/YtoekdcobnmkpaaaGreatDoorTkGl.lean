/-
  Plain words for TokenSets: the scan of a set's text, with blanks and with commas.
-/
import Derived.Test.YtoekdcobnmkpaaaGreatDoorTkRs
import Derived.Test.YtoekdcobnmkpaaaGreatDoorBTxM
namespace Go.Proofs.YtoekdcobnmkpaaaGreatDoor
open Go.RowKit
set_option linter.unusedSimpArgs false
set_option linter.unusedVariables false

theorem mem_nat {M : Nat} {x : Int} (h : x ∈ memM M 4096) : ∃ i : Nat, x = i ∧ i < 4096 ∧ M.testBit i = true := by
  unfold memM at h
  obtain ⟨i, hi, rfl⟩ := List.mem_map.1 h
  obtain ⟨h1, h2⟩ := List.mem_filter.1 hi
  exact ⟨i, rfl, List.mem_range.1 h1, h2⟩
theorem set_text (M : Nat) : textS M = 123 :: joinI (memM M 4096) ++ [125] := by
  unfold textS txt
  rw [fold_join _ (fun x hx => by obtain ⟨i, rfl, _⟩ := mem_nat hx; omega)]
/-- The members of a set as digits and numbers. -/
def numsOf (M : Nat) : List (List Nat × Nat) := (memM M 4096).map (fun x => (decN x.toNat, x.toNat))
theorem numsOf_num (M : Nat) : ∀ x ∈ numsOf M, IsNum x.1 x.2 := fun x hx => by
  unfold numsOf at hx
  obtain ⟨y, hy, rfl⟩ := List.mem_map.1 hx
  obtain ⟨i, rfl, h2, _⟩ := mem_nat hy
  exact dec_isNum (by simp; omega)
theorem scan_nums {t : ByteArray} {ps : List (List Nat × Nat)} (hps : ∀ x ∈ ps, IsNum x.1 x.2) (h8 : t.size ≤ 8000) (ht : strB t = joinN (ps.map (·.1))) : (scanS t).2 = (0, 0) ∧ Rest (scanS t).1 (ps.map (·.2)) := by
  have hsk : skipT (strB t) 0 = 0 := by
    unfold skipT
    rw [ht, List.drop_zero]
    cases ps with
    | nil => rfl
    | cons x u =>
      obtain ⟨r, hr, _⟩ := joinN_head (p := x.1) (t := u.map (·.1))
      rw [List.map_cons, hr, skip_num (hps x (by simp))]
  obtain ⟨h1, h2⟩ := scan_join (ps.map (fun x => (x.1, 2, x.2))) (fun x hx => by obtain ⟨y, hy, rfl⟩ := List.mem_map.1 hx; exact num_tok (hps y hy)) (strB t) 0 (t.size + 1)
    (by rw [List.drop_zero, ht, List.map_map]; rfl) (by rw [strB_len]; omega)
  have hl : (scanL t) = scanF (strB t) (t.size + 1) 0 := by unfold scanL; rw [hsk]
  rw [← hl] at h1 h2
  rw [scanS_ok (by omega) h1]
  exact ⟨rfl, rest_blank t ps _ h2⟩
theorem scan_numsC {t : ByteArray} {ps : List (List Nat × Nat)} (hps : ∀ x ∈ ps, IsNum x.1 x.2) (h8 : t.size ≤ 8000) (ht : strB t = joinC (ps.map (·.1))) : (scanS t).2 = (0, 0) ∧ Rest (scanS t).1 (ps.map (·.2)) := by
  have hsk : skipT (strB t) 0 = 0 := by
    unfold skipT
    rw [ht, List.drop_zero]
    cases ps with
    | nil => rfl
    | cons x u =>
      obtain ⟨r, hr⟩ := joinC_head (p := x.1) (t := u.map (·.1))
      rw [List.map_cons, hr, skip_num (hps x (by simp))]
  obtain ⟨h1, h2⟩ := scan_commas ps hps (strB t) 0 (t.size + 1) (by rw [List.drop_zero, ht]) (by rw [strB_len]; omega)
  have hl : (scanL t) = scanF (strB t) (t.size + 1) 0 := by unfold scanL; rw [hsk]
  rw [← hl] at h1 h2
  rw [scanS_ok (by omega) h1]
  exact ⟨rfl, rest_comma t ps _ h2⟩
/-- The scan of a set's members with blanks between them. -/
theorem scan_set (M : Nat) (h : (joinI (memM M 4096)).length ≤ 8000) : (scanS ⟨(joinI (memM M 4096)).toArray⟩).2 = (0, 0) ∧ Rest (scanS ⟨(joinI (memM M 4096)).toArray⟩).1 ((memM M 4096).map Int.toNat) := by
  have hn := fun x (hx : x ∈ memM M 4096) => (show (0 : Int) ≤ x by obtain ⟨i, rfl, _⟩ := mem_nat hx; omega)
  have := scan_nums (t := ⟨(joinI (memM M 4096)).toArray⟩) (numsOf_num M) (by show (joinI (memM M 4096)).toArray.size ≤ _; simpa using h)
    (by show (joinI (memM M 4096)).toArray.toList.map UInt8.toNat = _; rw [List.toList_toArray, joinI_nat _ hn]; unfold numsOf; rw [List.map_map]; rfl)
  unfold numsOf at this
  rw [List.map_map] at this
  exact this
/-- The scan of a set's members with commas between them. -/
theorem scan_setC (M : Nat) (h : (joinI (memM M 4096)).length ≤ 8000) : (scanS ⟨((joinI (memM M 4096)).map toComma).toArray⟩).2 = (0, 0) ∧ Rest (scanS ⟨((joinI (memM M 4096)).map toComma).toArray⟩).1 ((memM M 4096).map Int.toNat) := by
  have hn := fun x (hx : x ∈ memM M 4096) => (show (0 : Int) ≤ x by obtain ⟨i, rfl, _⟩ := mem_nat hx; omega)
  have := scan_numsC (t := ⟨((joinI (memM M 4096)).map toComma).toArray⟩) (numsOf_num M) (by show ((joinI (memM M 4096)).map toComma).toArray.size ≤ _; simpa using h)
    (by show ((joinI (memM M 4096)).map toComma).toArray.toList.map UInt8.toNat = _; rw [List.toList_toArray, joinI_comma _ hn]; unfold numsOf; rw [List.map_map]; rfl)
  unfold numsOf at this
  rw [List.map_map] at this
  exact this
/-- A set put together out of its members, one by one. -/
theorem fold_mem (M : Nat) : ∀ (ns : List Nat) (K : Nat), (∀ i, M.testBit i = true ↔ K.testBit i = true ∨ i ∈ ns) → ns.foldl (fun k n => k ||| 2 ^ n) K = M
  | [], K, h => by
    refine Nat.eq_of_testBit_eq fun i => ?_
    have := h i
    simp only [List.not_mem_nil, or_false] at this
    rw [List.foldl_nil]
    exact (Bool.eq_iff_iff.2 this).symm
  | n :: t, K, h => by
    rw [List.foldl_cons]
    refine fold_mem M t _ fun i => ?_
    rw [h i, Nat.testBit_or, Bool.or_eq_true, Nat.testBit_two_pow, decide_eq_true_eq, List.mem_cons]
    constructor
    · rintro (h | rfl | h)
      · exact Or.inl (Or.inl h)
      · exact Or.inl (Or.inr rfl)
      · exact Or.inr h
    · rintro ((h | rfl) | h)
      · exact Or.inl h
      · exact Or.inr (Or.inl rfl)
      · exact Or.inr (Or.inr h)
theorem fold_set (M : Nat) (h : ∀ i, 4096 ≤ i → M.testBit i = false) : ((memM M 4096).map Int.toNat).foldl (fun k n => k ||| 2 ^ n) 0 = M := by
  refine fold_mem M _ 0 fun i => ?_
  rw [Nat.zero_testBit]
  simp only [Bool.false_eq_true, false_or]
  constructor
  · intro hi
    have hlt : i < 4096 := Nat.lt_of_not_le fun e => by rw [h i e] at hi; cases hi
    refine List.mem_map.2 ⟨(i : Int), ?_, by simp⟩
    unfold memM
    exact List.mem_map.2 ⟨i, List.mem_filter.2 ⟨List.mem_range.2 hlt, hi⟩, rfl⟩
  · intro hi
    obtain ⟨x, hx, e⟩ := List.mem_map.1 hi
    obtain ⟨j, rfl, _, hj⟩ := mem_nat hx
    have : j = i := by simpa using e
    rw [← this]; exact hj
end Go.Proofs.YtoekdcobnmkpaaaGreatDoor
