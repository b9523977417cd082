/-
  The order of paths is a total order; sorted lists are told by their members.
-/
import Derived.Test.YtnnakllgfaaejaaGreatDoorPaO
import Derived.Sort.Statements
namespace Go.Proofs.YtnnakllgfaaejaaGreatDoor
open Go.RowKit
set_option linter.unusedSimpArgs false
set_option linter.unusedVariables false

theorem cb_swap : ∀ a b : List UInt8, Lib.compareBytes b a = - Lib.compareBytes a b
  | [], [] => rfl
  | [], y :: b => rfl
  | x :: a, [] => rfl
  | x :: a, y :: b => by
    have ih := cb_swap a b
    unfold Lib.compareBytes
    by_cases h1 : x < y
    · have h2 : ¬ y < x := fun h => by have a1 := UInt8.lt_iff_toNat_lt.1 h1; have a2 := UInt8.lt_iff_toNat_lt.1 h; omega
      rw [if_neg h2, if_pos h1, if_pos h1]; rfl
    · by_cases h2 : y < x
      · rw [if_pos h2, if_neg h1, if_pos h2]
      · rw [if_neg h1, if_neg h2, if_neg h1, if_neg h2]; exact ih
theorem cb_vals (a b : List UInt8) : Lib.compareBytes a b = -1 ∨ Lib.compareBytes a b = 0 ∨ Lib.compareBytes a b = 1 := by
  rcases cmpB_cases a b with h | h | h
  · exact Or.inl h.1
  · exact Or.inr (Or.inl h.1)
  · exact Or.inr (Or.inr h.1)
theorem cb_trans : ∀ a b c : List UInt8, Lib.compareBytes a b < 0 → Lib.compareBytes b c < 0 → Lib.compareBytes a c < 0
  | [], [], c, h, _ => by simp [Lib.compareBytes] at h
  | [], y :: b, [], _, h => by simp [Lib.compareBytes] at h
  | [], y :: b, z :: c, _, _ => by simp [Lib.compareBytes]
  | x :: a, [], c, h, _ => by simp [Lib.compareBytes] at h
  | x :: a, y :: b, [], _, h => by simp [Lib.compareBytes] at h
  | x :: a, y :: b, z :: c, h1, h2 => by
    have ih := cb_trans a b c
    unfold Lib.compareBytes at h1 h2 ⊢
    simp only [UInt8.lt_iff_toNat_lt] at h1 h2 ⊢
    by_cases e1 : x.toNat < y.toNat
    · by_cases e2 : y.toNat < z.toNat
      · rw [if_pos (by omega)]; omega
      · rw [if_neg e2] at h2
        by_cases e3 : z.toNat < y.toNat
        · rw [if_pos e3] at h2; omega
        · rw [if_pos (by omega)]; omega
    · rw [if_neg e1] at h1
      by_cases e4 : y.toNat < x.toNat
      · rw [if_pos e4] at h1; omega
      · rw [if_neg e4] at h1
        by_cases e2 : y.toNat < z.toNat
        · rw [if_pos (by omega)]; omega
        · rw [if_neg e2] at h2
          by_cases e3 : z.toNat < y.toNat
          · rw [if_pos e3] at h2; omega
          · rw [if_neg e3] at h2
            rw [if_neg (by omega), if_neg (by omega)]
            exact ih h1 h2

theorem cmpB_swap (a b : ByteArray) : cmpB b a = - cmpB a b := cb_swap _ _
theorem cmpN_swap : ∀ a b : List ByteArray, cmpN b a = - cmpN a b
  | [], [] => rfl
  | [], y :: b => rfl
  | x :: a, [] => rfl
  | x :: a, y :: b => by
    have ih := cmpN_swap a b
    have hs := cmpB_swap x y
    unfold cmpN
    by_cases h : cmpB x y = 0
    · rw [if_pos h, if_pos (by omega)]; exact ih
    · rw [if_neg h, if_neg (by omega)]; exact hs
theorem cmpN_zero : ∀ a b : List ByteArray, cmpN a b = 0 ↔ a = b
  | [], [] => by simp [cmpN]
  | [], y :: b => by simp [cmpN]
  | x :: a, [] => by simp [cmpN]
  | x :: a, y :: b => by
    have ih := cmpN_zero a b
    unfold cmpN
    by_cases h : cmpB x y = 0
    · rw [if_pos h, ih, cmpB_zero.1 h]; simp
    · rw [if_neg h]
      constructor
      · intro e; exact absurd e h
      · intro e; injection e with e1 e2; exact absurd (cmpB_zero.2 e1) h
theorem cmpN_trans : ∀ a b c : List ByteArray, cmpN a b < 0 → cmpN b c < 0 → cmpN a c < 0
  | [], [], c, h, _ => by simp [cmpN] at h
  | [], y :: b, [], _, h => by simp [cmpN] at h
  | [], y :: b, z :: c, _, _ => by simp [cmpN]
  | x :: a, [], c, h, _ => by simp [cmpN] at h
  | x :: a, y :: b, [], _, h => by simp [cmpN] at h
  | x :: a, y :: b, z :: c, h1, h2 => by
    have ih := cmpN_trans a b c
    unfold cmpN at h1 h2 ⊢
    by_cases e1 : cmpB x y = 0
    · obtain rfl := cmpB_zero.1 e1
      rw [if_pos e1] at h1
      by_cases e2 : cmpB x z = 0
      · rw [if_pos e2] at h2 ⊢; exact ih h1 h2
      · rw [if_neg e2] at h2 ⊢; exact h2
    · rw [if_neg e1] at h1
      by_cases e2 : cmpB y z = 0
      · obtain rfl := cmpB_zero.1 e2
        rw [if_neg e1]; exact h1
      · rw [if_neg e2] at h2
        have h3 : cmpB x z < 0 := cb_trans _ _ _ h1 h2
        rw [if_neg (by omega)]; exact h3

/-- A text that is a path. -/
def IsPath (s : ByteArray) : Prop := (namesS s).isSome = true
theorem isPath_names {s : ByteArray} (h : IsPath s) : ∃ l, namesS s = some l := Option.isSome_iff_exists.1 h
theorem compareS_zero {p q : ByteArray} (hp : IsPath p) (hq : IsPath q) : compareS p q = 0 ↔ p = q := by
  obtain ⟨a, ha⟩ := isPath_names hp
  obtain ⟨b, hb⟩ := isPath_names hq
  unfold compareS
  rw [ha, hb]
  show cmpN a b = 0 ↔ _
  rw [cmpN_zero]
  constructor
  · intro e; subst e; exact namesS_inj ha hb
  · intro e; subst e; rw [ha] at hb; injection hb
theorem compareS_swap {p q : ByteArray} (hp : IsPath p) (hq : IsPath q) : compareS q p = - compareS p q := by
  obtain ⟨a, ha⟩ := isPath_names hp
  obtain ⟨b, hb⟩ := isPath_names hq
  unfold compareS
  rw [ha, hb]
  exact cmpN_swap a b
theorem compareS_trans {p q r : ByteArray} (hp : IsPath p) (hq : IsPath q) (hr : IsPath r) (h1 : compareS p q < 0) (h2 : compareS q r < 0) : compareS p r < 0 := by
  obtain ⟨a, ha⟩ := isPath_names hp
  obtain ⟨b, hb⟩ := isPath_names hq
  obtain ⟨c, hc⟩ := isPath_names hr
  unfold compareS at *
  rw [ha, hb] at h1
  rw [hb, hc] at h2
  rw [ha, hc]
  exact cmpN_trans a b c h1 h2

/-- An ascending list of paths. -/
def SortedP (l : List ByteArray) : Prop := l.Pairwise (fun a b => compareS a b < 0) ∧ ∀ x ∈ l, IsPath x
theorem SortedP.tail {x : ByteArray} {l : List ByteArray} (h : SortedP (x :: l)) : SortedP l := ⟨(List.pairwise_cons.1 h.1).2, fun y hy => h.2 y (List.mem_cons_of_mem _ hy)⟩
theorem SortedP.head {x : ByteArray} {l : List ByteArray} (h : SortedP (x :: l)) : ∀ y ∈ l, compareS x y < 0 := (List.pairwise_cons.1 h.1).1
theorem SortedP.notMem {x : ByteArray} {l : List ByteArray} (h : SortedP (x :: l)) : x ∉ l := fun hm => by
  have h1 := h.head x hm
  rw [(compareS_zero (h.2 x (by simp)) (h.2 x (by simp))).2 rfl] at h1
  omega
/-- It is told by its members. -/
theorem sortedP_unique : ∀ {l m : List ByteArray}, SortedP l → SortedP m → (∀ x, x ∈ l ↔ x ∈ m) → l = m
  | [], [], _, _, _ => rfl
  | [], y :: m, _, _, h => absurd ((h y).2 (by simp)) (by simp)
  | x :: l, [], _, _, h => absurd ((h x).1 (by simp)) (by simp)
  | x :: l, y :: m, hl, hm, h => by
    have hx : IsPath x := hl.2 x (by simp)
    have hy : IsPath y := hm.2 y (by simp)
    have e : x = y := by
      rcases List.mem_cons.1 ((h x).1 (by simp)) with e | h1
      · exact e
      · rcases List.mem_cons.1 ((h y).2 (by simp)) with e | h2
        · exact e.symm
        · have a1 := hm.head x h1
          have a2 := hl.head y h2
          have a3 := compareS_swap hx hy
          omega
    subst e
    rw [sortedP_unique hl.tail hm.tail fun z => ?_]
    constructor
    · intro hz
      rcases List.mem_cons.1 ((h z).1 (List.mem_cons_of_mem _ hz)) with e | h1
      · subst e; exact absurd hz hl.notMem
      · exact h1
    · intro hz
      rcases List.mem_cons.1 ((h z).2 (List.mem_cons_of_mem _ hz)) with e | h1
      · subst e; exact absurd hz hm.notMem
      · exact h1
theorem SortedP.nodup {l : List ByteArray} (h : SortedP l) : l.Nodup := by
  induction l with
  | nil => exact List.nodup_nil
  | cons x l ih => exact List.nodup_cons.2 ⟨h.notMem, ih h.tail⟩
end Go.Proofs.YtnnakllgfaaejaaGreatDoor
