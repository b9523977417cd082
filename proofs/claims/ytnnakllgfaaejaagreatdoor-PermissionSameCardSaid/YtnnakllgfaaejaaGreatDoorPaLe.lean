/-
  The reference's order: bytesLess, Less.
-/
import Derived.Test.YtnnakllgfaaejaaGreatDoorPaO
import Derived.Test.YtnnakllgfaaejaaGreatDoorPaW
import Derived.Test.YtnnakllgfaaejaaGreatDoorPaR
namespace Go.Proofs.YtnnakllgfaaejaaGreatDoor
open Go.RowKit
set_option linter.unusedSimpArgs false
set_option linter.unusedVariables false

def lessB (a b : ByteArray) : Bool := decide (cmpB a b = -1)
theorem lessB_eq (a b : ByteArray) : lessB a b = Op.bytesLess a.data.toList b.data.toList := by
  unfold lessB cmpB
  rcases cmpB_cases a.data.toList b.data.toList with ⟨h1, h2, _⟩ | ⟨h1, h2, _⟩ | ⟨h1, h2, _⟩ <;> rw [h1, h2] <;> decide

theorem bless_at : ∀ (a b : List UInt8) (k : Nat), k ≤ a.length → k ≤ b.length → (∀ i, i < k → a.getD i 0 = b.getD i 0) → Op.bytesLess a b = Op.bytesLess (a.drop k) (b.drop k)
  | a, b, 0, _, _, _ => rfl
  | [], _, k + 1, h, _, _ => by simp at h
  | _, [], k + 1, _, h, _ => by simp at h
  | x :: a, y :: b, k + 1, h1, h2, h => by
    have h0 := h 0 (by omega)
    simp at h0
    subst h0
    rw [show Op.bytesLess (x :: a) (x :: b) = Op.bytesLess a b by
      show (decide (x < x) || (x == x && Op.bytesLess a b)) = _
      have : ¬ x < x := UInt8.lt_irrefl x
      simp [this]]
    rw [bless_at a b k (by simpa using h1) (by simpa using h2) (fun i hi => by have := h (i + 1) (by omega); simpa using this)]
    rfl

theorem bat_eq {a b : ByteArray} {i : Nat} (h1 : i < a.size) (h2 : i < b.size) (h : bat a i = bat b i) : a.data.toList.getD i 0 = b.data.toList.getD i 0 := by
  rw [bat_list a i h1, bat_list b i h2] at h
  exact UInt8.toNat_inj.1 h

theorem lessB_end {a b : ByteArray} {k : Nat} (h : ∀ i, i < k → bat a i = bat b i) (ha : k ≤ a.size) (hb : k ≤ b.size) (he : k = a.size ∨ k = b.size) : lessB a b = decide (a.size < b.size) := by
  have hal : a.data.toList.length = a.size := rfl
  have hbl : b.data.toList.length = b.size := rfl
  rw [lessB_eq, bless_at _ _ k (by omega) (by omega) (fun i hi => bat_eq (by omega) (by omega) (h i hi))]
  rcases he with rfl | rfl
  · rw [List.drop_of_length_le (by omega)]
    cases hd : b.data.toList.drop a.size with
    | nil =>
      have := congrArg List.length hd
      simp at this
      simp [Op.bytesLess]; omega
    | cons y t =>
      have := congrArg List.length hd
      rw [List.length_drop] at this
      simp at this
      simp [Op.bytesLess]; omega
  · rw [List.drop_of_length_le (l := b.data.toList) (by omega)]
    have : Op.bytesLess (a.data.toList.drop b.size) [] = false := by unfold Op.bytesLess; rfl
    rw [this]
    simp; omega

theorem lessB_stop {a b : ByteArray} {k : Nat} (h : ∀ i, i < k → bat a i = bat b i) (ha : k < a.size) (hb : k < b.size) (he : bat a k ≠ bat b k) : lessB a b = decide (bat a k < bat b k) := by
  have hal : a.data.toList.length = a.size := rfl
  have hbl : b.data.toList.length = b.size := rfl
  rw [lessB_eq, bless_at _ _ k (by omega) (by omega) (fun i hi => bat_eq (by omega) (by omega) (h i hi))]
  rw [List.drop_eq_getElem_cons (l := a.data.toList) (i := k) (by omega), List.drop_eq_getElem_cons (l := b.data.toList) (i := k) (by omega)]
  have e1 : bat a k = (a.data.toList[k]).toNat := by rw [bat_list a k ha]; simp [List.getD, hal, ha]
  have e2 : bat b k = (b.data.toList[k]).toNat := by rw [bat_list b k hb]; simp [List.getD, hbl, hb]
  rw [e1, e2] at he ⊢
  generalize a.data.toList[k] = x at he ⊢
  generalize b.data.toList[k] = y at he ⊢
  show (decide (x < y) || (x == y && _)) = _
  have hne : (x == y) = false := beq_eq_false_iff_ne.2 fun e => he (by rw [e])
  rw [hne]
  simp [UInt8.lt_iff_toNat_lt]

theorem drew_then {w wr : World} (h : ∃ q, wr = w.drewN q) (n : Nat) : ∃ q, wr.drewN n = w.drewN q := by
  obtain ⟨q, rfl⟩ := h
  exact ⟨q + n, by simp [World.drewN, Nat.add_assoc]⟩
theorem quiet_left8 {P : Program} {f : FuncId} {args : Array Value} {w : World} {n : Nat} {v : Value}
    (h : Calls P f args (w.drewN n) fun e w' => e = .returned v ∧ ∃ m, w' = (w.drewN n).drewN m) : Calls P f args (w.drewN n) fun e w'' => e = .returned v ∧ ∃ m, w'' = w.drewN m := by
  refine h.mono ?_
  rintro e w' ⟨rfl, m, rfl⟩
  exact ⟨rfl, n + m, by simp [World.drewN, Nat.add_assoc]⟩

end Go.Proofs.YtnnakllgfaaejaaGreatDoor
