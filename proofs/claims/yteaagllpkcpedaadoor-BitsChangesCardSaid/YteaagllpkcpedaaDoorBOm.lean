/-
  The order of ascending lists, number by number, and that it is what Compare answers of the sets.
-/
import Derived.Test.YteaagllpkcpedaaDoorBRm
import Derived.Test.YteaagllpkcpedaaDoorBCo
namespace Go.Proofs.YteaagllpkcpedaaDoor

/-- Lists compared number by number; a beginning of another list comes first. -/
def cmpL : List Int → List Int → Int
  | [], [] => 0
  | [], _ :: _ => -1
  | _ :: _, [] => 1
  | x :: l, y :: m => if x < y then -1 else if y < x then 1 else cmpL l m

theorem cmpL_pre (p a b : List Int) : cmpL (p ++ a) (p ++ b) = cmpL a b := by
  induction p with
  | nil => rfl
  | cons x t ih => simp [cmpL, ih]
theorem cmpL_anti : ∀ a b : List Int, cmpL b a = - cmpL a b
  | [], [] => rfl
  | [], _ :: _ => rfl
  | _ :: _, [] => rfl
  | x :: l, y :: m => by
    simp only [cmpL]
    by_cases h1 : x < y
    · rw [if_neg (by omega), if_pos h1, if_pos h1]; rfl
    · by_cases h2 : y < x
      · rw [if_pos h2, if_neg h1, if_pos h2]
      · rw [if_neg h2, if_neg h1, if_neg h1, if_neg h2]; exact cmpL_anti l m
theorem cmpL_zero : ∀ a b : List Int, cmpL a b = 0 ↔ a = b
  | [], [] => by simp [cmpL]
  | [], _ :: _ => by simp [cmpL]
  | _ :: _, [] => by simp [cmpL]
  | x :: l, y :: m => by
    simp only [cmpL]
    by_cases h1 : x < y
    · rw [if_pos h1]; simp; omega
    · by_cases h2 : y < x
      · rw [if_neg h1, if_pos h2]; simp; omega
      · rw [if_neg h1, if_neg h2, cmpL_zero l m]
        have : x = y := by omega
        simp [this]
theorem cmpL_range : ∀ a b : List Int, cmpL a b = -1 ∨ cmpL a b = 0 ∨ cmpL a b = 1
  | [], [] => by simp [cmpL]
  | [], _ :: _ => by simp [cmpL]
  | _ :: _, [] => by simp [cmpL]
  | x :: l, y :: m => by
    simp only [cmpL]
    split
    · simp
    · split
      · simp
      · exact cmpL_range l m
theorem cmpL_trans : ∀ a b c : List Int, cmpL a b ≤ 0 → cmpL b c ≤ 0 → cmpL a c ≤ 0
  | [], _, [], _, _ => by simp [cmpL]
  | [], _, _ :: _, _, _ => by simp [cmpL]
  | _ :: _, [], _, h, _ => by simp [cmpL] at h
  | _ :: _, _ :: _, [], _, h => by simp [cmpL] at h
  | x :: l, y :: m, z :: n, h1, h2 => by
    simp only [cmpL] at h1 h2 ⊢
    by_cases a1 : x < y
    · by_cases b1 : y < z
      · rw [if_pos (by omega)]; omega
      · by_cases b2 : z < y
        · rw [if_neg b1, if_pos b2] at h2; omega
        · rw [if_pos (by omega)]; omega
    · by_cases a2 : y < x
      · rw [if_neg a1, if_pos a2] at h1; omega
      · rw [if_neg a1, if_neg a2] at h1
        by_cases b1 : y < z
        · rw [if_pos (by omega)]; omega
        · by_cases b2 : z < y
          · rw [if_neg b1, if_pos b2] at h2; omega
          · rw [if_neg b1, if_neg b2] at h2
            rw [if_neg (by omega), if_neg (by omega)]
            exact cmpL_trans l m n h1 h2

theorem memM_congr {M K n : Nat} (h : ∀ i, i < n → M.testBit i = K.testBit i) : memM M n = memM K n := by
  unfold memM
  congr 1
  exact List.filter_congr fun i hi => h i (by simpa using hi)
theorem memM_split (M d : Nat) (hd : d ≤ 4096) : ∃ A, memM M 4096 = memM M d ++ A ∧ A.Pairwise (· < ·) ∧ ∀ x, x ∈ A ↔ (d : Int) ≤ x ∧ x < 4096 ∧ M.testBit x.toNat = true := by
  obtain ⟨A, hA⟩ := memM_prefix M hd
  have hs := memM_sorted M 4096
  rw [← hA, List.pairwise_append] at hs
  refine ⟨A, hA.symm, hs.2.1, fun x => ⟨fun hx => ?_, fun ⟨h1, h2, h3⟩ => ?_⟩⟩
  · have hm : x ∈ memM M 4096 := by rw [← hA]; exact List.mem_append_right _ hx
    obtain ⟨a, b, c⟩ := memM_mem.1 hm
    refine ⟨?_, by omega, c⟩
    by_cases h : x < d
    · have := hs.2.2 x (memM_mem.2 ⟨a, h, c⟩) x hx; omega
    · omega
  · have hm : x ∈ memM M 4096 := memM_mem.2 ⟨by omega, by omega, h3⟩
    rw [← hA] at hm
    rcases List.mem_append.1 hm with h | h
    · have := (memM_mem.1 h).2.1; omega
    · exact h
theorem log2_above {M d : Nat} : (M = 0 ∨ Nat.log2 M < d) ↔ ∀ i, d ≤ i → M.testBit i = false := by
  constructor
  · rintro (h | h) i hi
    · simp [h]
    · by_cases h0 : M = 0
      · simp [h0]
      · exact Nat.testBit_lt_two_pow (Nat.lt_of_lt_of_le ((Nat.log2_lt h0).1 h) (Nat.pow_le_pow_right (by omega) hi))
  · intro h
    by_cases h0 : M = 0
    · exact Or.inl h0
    · right
      rw [Nat.log2_lt h0]
      exact Nat.lt_pow_two_of_testBit M h

/-- The set that has the least difference, and the one that has not. -/
theorem cmp_ld {M K d : Nat} (h : LD M K d) (hb : K.testBit d = true) (hM : Small M) (hK : Small K) : cmpL (memM M 4096) (memM K 4096) = if M = 0 ∨ Nat.log2 M < d then -1 else 1 := by
  have hd := ld_small h hM hK
  have hbM : M.testBit d = false := by
    cases e : M.testBit d
    · rfl
    · exact absurd (e.trans hb.symm) h.ne
  obtain ⟨A, e1, s1, m1⟩ := memM_split M d (by omega)
  obtain ⟨B, e2, s2, m2⟩ := memM_split K d (by omega)
  rw [e1, e2, memM_congr h.eq, cmpL_pre]
  have hdB : (d : Int) ∈ B := (m2 d).2 ⟨by omega, by omega, by simpa using hb⟩
  have hBd : ∃ B', B = (d : Int) :: B' := by
    cases B with
    | nil => simp at hdB
    | cons b t =>
      refine ⟨t, ?_⟩
      have h1 := ((m2 b).1 List.mem_cons_self).1
      rcases List.mem_cons.1 hdB with e | e
      · rw [e]
      · have := (List.pairwise_cons.1 s2).1 _ e; omega
  obtain ⟨B', rfl⟩ := hBd
  cases A with
  | nil =>
    rw [if_pos]
    · rfl
    · rw [log2_above]
      intro i hi
      cases e : M.testBit i
      · rfl
      · have hi2 : i < 4096 := by
          rcases Nat.lt_or_ge i 4096 with h1 | h1
          · exact h1
          · rw [Nat.testBit_lt_two_pow (hM i h1)] at e; cases e
        have := (m1 (i : Int)).2 ⟨by omega, by omega, by simpa using e⟩
        simp at this
  | cons a t =>
    obtain ⟨h1, h2, h3⟩ := (m1 a).1 List.mem_cons_self
    have hne : a ≠ d := fun e => by rw [e] at h3; simp [hbM] at h3
    rw [if_neg, cmpL, if_neg (by omega), if_pos (by omega)]
    rw [log2_above]
    intro hh
    have := hh a.toNat (by omega)
    rw [this] at h3; cases h3

/-- What Compare answers is the lists' order. -/
theorem CmpIs.list {M K : Nat} {r : Int} (h : CmpIs M K r) (hM : Small M) (hK : Small K) : r = cmpL (memM M 4096) (memM K 4096) := by
  rcases h with ⟨rfl, rfl⟩ | ⟨d, hd, rfl⟩
  · exact ((cmpL_zero _ _).2 rfl).symm
  · unfold cmpAt
    by_cases hb : K.testBit d = true
    · rw [if_pos hb, cmp_ld hd hb hM hK]
    · rw [if_neg hb]
      have hbM : M.testBit d = true := by
        cases e : M.testBit d
        · exact absurd (by rw [e]; simpa using hb) hd.ne
        · rfl
      have hd' : LD K M d := ⟨fun e => hd.ne e.symm, fun i hi => (hd.eq i hi).symm⟩
      rw [cmpL_anti (memM K 4096) (memM M 4096), cmp_ld hd' hbM hK hM]
      split <;> rfl

open Go.RowKit in
/-- Compare, of any two sets. -/
theorem compare_list (w : World) (v u : Value) (M K : Nat) (hv : SetV w v M) (hu : SetV w u K) (hS : Small M) (hS2 : Small K) (hT : Tz w) :
    Calls Tryd.prog 22 #[v, u] w fun e w' => e = .returned (.int .i64 (cmpL (memM M 4096) (memM K 4096))) ∧ Kept (fun _ => False) w w' := by
  refine (compare_any w v u M K hv hu hS hS2 hT).mono ?_
  rintro e w' ⟨⟨r, hr, rfl⟩, hk⟩
  rw [hr.list hS hS2]
  exact ⟨rfl, hk⟩
end Go.Proofs.YteaagllpkcpedaaDoor
