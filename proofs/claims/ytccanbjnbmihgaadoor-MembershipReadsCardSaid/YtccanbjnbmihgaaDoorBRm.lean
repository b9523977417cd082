/-
  Plain words on ascending lists and the sets that they stand for: a further number, a list's set, differences, comparison. No program is named here.
-/
import Derived.Test.YtccanbjnbmihgaaDoorBAm
import Derived.Test.YtccanbjnbmihgaaDoorBOpM
namespace Go.Proofs.YtccanbjnbmihgaaDoor

theorem sorted_ext : ∀ l m : List Int, l.Pairwise (· < ·) → m.Pairwise (· < ·) → (∀ x, x ∈ l ↔ x ∈ m) → l = m
  | [], [], _, _, _ => rfl
  | [], y :: m, _, _, h => by have := (h y).2 List.mem_cons_self; cases this
  | x :: l, [], _, _, h => by have := (h x).1 List.mem_cons_self; cases this
  | x :: l, y :: m, hl, hm, h => by
    rw [List.pairwise_cons] at hl hm
    have hxy : x = y := by
      have h1 := (h x).1 List.mem_cons_self
      have h2 := (h y).2 List.mem_cons_self
      rcases List.mem_cons.1 h1 with e | e
      · exact e
      · rcases List.mem_cons.1 h2 with e2 | e2
        · exact e2.symm
        · have := hm.1 x e; have := hl.1 y e2; omega
    subst hxy
    congr 1
    refine sorted_ext l m hl.2 hm.2 fun z => ⟨fun hz => ?_, fun hz => ?_⟩
    · rcases List.mem_cons.1 ((h z).1 (List.mem_cons_of_mem _ hz)) with e | e
      · have := hl.1 z hz; omega
      · exact e
    · rcases List.mem_cons.1 ((h z).2 (List.mem_cons_of_mem _ hz)) with e | e
      · have := hm.1 z hz; omega
      · exact e

theorem memM_sorted (M n : Nat) : (memM M n).Pairwise (· < ·) := by
  unfold memM
  rw [List.pairwise_map]
  refine List.Pairwise.imp ?_ (List.Pairwise.filter _ List.pairwise_lt_range)
  intro a b h
  omega
theorem memM_mem {M n : Nat} {x : Int} : x ∈ memM M n ↔ 0 ≤ x ∧ x < n ∧ M.testBit x.toNat = true := by
  simp only [memM, List.mem_map, List.mem_filter, List.mem_range]
  constructor
  · rintro ⟨i, ⟨h1, h2⟩, rfl⟩
    exact ⟨by omega, by omega, by simpa using h2⟩
  · rintro ⟨h1, h2, h3⟩
    exact ⟨x.toNat, ⟨by omega, h3⟩, by omega⟩
theorem memM_is {M : Nat} {l : List Int} (h : l.Pairwise (· < ·)) (hm : ∀ x, x ∈ l ↔ 0 ≤ x ∧ x < 4096 ∧ M.testBit x.toNat = true) : l = memM M 4096 :=
  sorted_ext _ _ h (memM_sorted _ _) fun x => by rw [hm, memM_mem]; rfl
theorem memM_inj {M K : Nat} (hM : Small M) (hK : Small K) (h : memM M 4096 = memM K 4096) : M = K := by
  refine Nat.eq_of_testBit_eq fun i => ?_
  rcases Nat.lt_or_ge i 4096 with h1 | h1
  · have e : ∀ X, X.testBit i = decide ((i : Int) ∈ memM X 4096) := fun X => by
      by_cases hx : X.testBit i = true
      · rw [hx]; symm; rw [decide_eq_true_iff, memM_mem]; exact ⟨by omega, by omega, by simpa using hx⟩
      · have : ¬ (i : Int) ∈ memM X 4096 := fun hh => hx (by have := (memM_mem.1 hh).2.2; simpa using this)
        simp [this]; simpa using hx
    rw [e M, e K, h]
  · rw [Nat.testBit_lt_two_pow (hM i h1), Nat.testBit_lt_two_pow (hK i h1)]
theorem memM_zero (n : Nat) : memM 0 n = [] := by simp [memM]

/-- One element of the list is taken over, with the further number ahead of it if it is due. -/
def insS (i : Int) (st : List Int × Bool) (x : Int) : List Int × Bool := if i < x ∧ st.2 = false then (st.1 ++ [i] ++ [x], true) else (st.1 ++ [x], st.2)
def insL (i : Int) (l : List Int) : List Int × Bool := l.foldl (insS i) ([], false)
def withL (l : List Int) (i : Int) : List Int := if i < 0 ∨ 4095 < i ∨ i ∈ l then l else if (insL i l).2 then (insL i l).1 else (insL i l).1 ++ [i]

theorem insL_take (i : Int) (l : List Int) (k : Nat) (h : k < l.length) : insL i (l.take (k + 1)) = insS i (insL i (l.take k)) (l.getD k 0) := by
  rw [List.take_succ_eq_append_getElem h, insL, List.foldl_append]
  simp [insL, List.getD, h]
theorem insS_len (i : Int) (st : List Int × Bool) (x : Int) : (insS i st x).1.length ≤ st.1.length + 2 := by
  unfold insS; split <;> simp
theorem insL_len (i : Int) (l : List Int) : (insL i l).1.length + (!(insL i l).2).toNat = l.length + 1 := by
  have key : ∀ (l : List Int) (st : List Int × Bool), (l.foldl (insS i) st).1.length + (!(l.foldl (insS i) st).2).toNat = st.1.length + l.length + (!st.2).toNat := by
    intro l
    induction l with
    | nil => intro st; simp
    | cons x t ih =>
      intro st
      rw [List.foldl_cons, ih]
      unfold insS
      rcases st with ⟨a, b⟩
      cases b
      · by_cases h : i < x <;> simp [h] <;> omega
      · simp; omega
  have := key l ([], false)
  simp only [List.length_nil, Nat.zero_add, Bool.not_false, Bool.toNat_true] at this
  exact this
theorem ins_done (i : Int) : ∀ (l acc : List Int), l.foldl (insS i) (acc, true) = (acc ++ l, true)
  | [], acc => by simp
  | x :: t, acc => by
    rw [List.foldl_cons]
    have : insS i (acc, true) x = (acc ++ [x], true) := by simp [insS]
    rw [this, ins_done i t]
    simp
theorem ins_due (i : Int) : ∀ (l acc : List Int), l.Pairwise (· < ·) → i ∉ l →
    (if (l.foldl (insS i) (acc, false)).2 then (l.foldl (insS i) (acc, false)).1 else (l.foldl (insS i) (acc, false)).1 ++ [i]) = acc ++ l.filter (fun x => decide (x < i)) ++ i :: l.filter (fun x => decide (i < x))
  | [], acc, _, _ => by simp
  | x :: t, acc, hp, hi => by
    rw [List.pairwise_cons] at hp
    rw [List.foldl_cons]
    by_cases h : i < x
    · have e : insS i (acc, false) x = (acc ++ [i] ++ [x], true) := by simp [insS, h]
      have e1 : t.filter (fun x => decide (x < i)) = [] := List.filter_eq_nil_iff.2 fun y hy => by have := hp.1 y hy; simp; omega
      have e2 : t.filter (fun x => decide (i < x)) = t := List.filter_eq_self.2 fun y hy => by have := hp.1 y hy; simp; omega
      rw [e, ins_done]
      simp [h, e1, e2, show ¬ x < i by omega]
    · have hx : x < i := by
        have : i ≠ x := fun e => hi (by simp [e])
        omega
      have e : insS i (acc, false) x = (acc ++ [x], false) := by simp [insS, h]
      rw [e, ins_due i t (acc ++ [x]) hp.2 (fun hh => hi (List.mem_cons_of_mem _ hh))]
      simp [h, hx]

/-- The number behind the numbers below it and ahead of those above it: an ascending list. -/
theorem mid_sorted (i : Int) (l : List Int) (hp : l.Pairwise (· < ·)) : (l.filter (fun x => decide (x < i)) ++ i :: l.filter (fun x => decide (i < x))).Pairwise (· < ·) := by
  rw [List.pairwise_append]
  refine ⟨hp.filter _, ?_, ?_⟩
  · rw [List.pairwise_cons]
    exact ⟨fun y hy => by have := (List.mem_filter.1 hy).2; simpa using this, hp.filter _⟩
  · intro a ha b hb
    have h1 : a < i := by have := (List.mem_filter.1 ha).2; simpa using this
    rcases List.mem_cons.1 hb with rfl | hb
    · exact h1
    · have h2 : i < b := by have := (List.mem_filter.1 hb).2; simpa using this
      omega

theorem or_bit (M i j : Nat) : (M ||| 2 ^ i).testBit j = (M.testBit j || decide (i = j)) := by
  rw [Nat.testBit_or, Nat.testBit_two_pow]

theorem withL_mem (M : Nat) (i : Int) : withL (memM M 4096) i = memM (addM M i) 4096 := by
  unfold withL addM
  by_cases hr : 0 ≤ i ∧ i ≤ 4095
  · rw [if_pos hr]
    by_cases hm : i ∈ memM M 4096
    · rw [if_pos (Or.inr (Or.inr hm))]
      have hb := (memM_mem.1 hm).2.2
      congr 1
      refine Nat.eq_of_testBit_eq fun j => ?_
      rw [or_bit]
      by_cases e : i.toNat = j
      · rw [← e, hb]; simp
      · simp [e]
    · rw [if_neg (fun h => h.elim (fun h => by omega) fun h => h.elim (fun h => by omega) hm)]
      unfold insL
      rw [ins_due i _ [] (memM_sorted M 4096) hm, List.nil_append]
      refine memM_is (mid_sorted i _ (memM_sorted M 4096)) fun x => ?_
      rw [List.mem_append, List.mem_cons, List.mem_filter, List.mem_filter, memM_mem, or_bit]
      simp only [decide_eq_true_eq, Bool.or_eq_true]
      constructor
      · rintro (⟨⟨a, b, c⟩, d⟩ | rfl | ⟨⟨a, b, c⟩, d⟩)
        · exact ⟨a, by omega, Or.inl c⟩
        · exact ⟨hr.1, by omega, Or.inr rfl⟩
        · exact ⟨a, by omega, Or.inl c⟩
      · rintro ⟨a, b, c | c⟩
        · have hne : x ≠ i := fun e => hm (by rw [← e]; exact memM_mem.2 ⟨a, by omega, c⟩)
          rcases Int.lt_or_gt_of_ne hne with h | h
          · exact Or.inl ⟨⟨a, by omega, c⟩, h⟩
          · exact Or.inr (Or.inr ⟨⟨a, by omega, c⟩, h⟩)
        · exact Or.inr (Or.inl (by omega))
  · rw [if_neg hr, if_pos (by omega)]

/-- The list of a list's set. -/
def ofL (l : List Int) : List Int := l.foldl withL []
theorem ofL_mask (l : List Int) : ofL l = memM (maskOf l) 4096 := by
  have key : ∀ (l : List Int) (M : Nat), l.foldl withL (memM M 4096) = memM (l.foldl addM M) 4096 := by
    intro l
    induction l with
    | nil => intro M; simp only [List.foldl_nil]
    | cons x t ih => intro M; simp only [List.foldl_cons]; rw [withL_mem, ih]
  have := key l 0
  rw [memM_zero] at this
  exact this
theorem ofL_take (l : List Int) (k : Nat) (h : k < l.length) : ofL (l.take (k + 1)) = withL (ofL (l.take k)) (l.getD k 0) := by
  rw [List.take_succ_eq_append_getElem h, ofL, List.foldl_append]
  simp [ofL, List.getD, h]
theorem withL_len (l : List Int) (i : Int) : (withL l i).length ≤ l.length + 1 := by
  unfold withL
  have := insL_len i l
  split
  · omega
  · split
    · rename_i h; rw [h] at this; simp at this; omega
    · rename_i h; rw [Bool.not_eq_true] at h; rw [h] at this; rw [List.length_append]; simp at this ⊢; omega
theorem ofL_len (l : List Int) : (ofL l).length ≤ 4096 := by rw [ofL_mask]; exact memM_le _ _

/-- The numbers below n. -/
theorem memM_ones (c : Nat) (hc : c ≤ 4096) : memM (2 ^ c - 1) 4096 = (List.range c).map fun i : Nat => (i : Int) := by
  symm
  refine memM_is ?_ fun x => ?_
  · rw [List.pairwise_map]
    exact List.pairwise_lt_range.imp fun h => by omega
  · rw [Nat.testBit_two_pow_sub_one]
    simp only [List.mem_map, List.mem_range, decide_eq_true_eq]
    constructor
    · rintro ⟨i, h, rfl⟩; exact ⟨by omega, by omega, by omega⟩
    · rintro ⟨a, b, c⟩; exact ⟨x.toNat, c, by omega⟩

/-- Those of one list that are, or are not, in another one. -/
theorem filter_not (M K : Nat) : (memM M 4096).filter (fun x => !decide (x ∈ memM K 4096)) = memM (anN M K) 4096 := by
  refine memM_is ((memM_sorted M 4096).filter _) fun x => ?_
  rw [List.mem_filter, memM_mem, anN_bit]
  simp only [Bool.not_eq_true', decide_eq_false_iff_not, memM_mem, Bool.and_eq_true, Bool.not_eq_true']
  constructor
  · rintro ⟨⟨a, b, c⟩, d⟩
    refine ⟨a, by omega, c, ?_⟩
    cases h : K.testBit x.toNat
    · rfl
    · exact absurd ⟨a, by omega, h⟩ d
  · rintro ⟨a, b, c, d⟩
    exact ⟨⟨a, by omega, c⟩, fun ⟨_, _, h⟩ => by rw [d] at h; cases h⟩
theorem filter_and (M K : Nat) : (memM M 4096).filter (fun x => decide (x ∈ memM K 4096)) = memM (M &&& K) 4096 := by
  refine memM_is ((memM_sorted M 4096).filter _) fun x => ?_
  rw [List.mem_filter, memM_mem, Nat.testBit_and]
  simp only [decide_eq_true_eq, memM_mem, Bool.and_eq_true]
  constructor
  · rintro ⟨⟨a, b, c⟩, d⟩; exact ⟨a, by omega, c, d.2.2⟩
  · rintro ⟨a, b, c, d⟩; exact ⟨⟨a, by omega, c⟩, ⟨a, by omega, d⟩⟩
theorem filter_take (p : Int → Bool) (l : List Int) (k : Nat) (h : k < l.length) : (l.take (k + 1)).filter p = if p (l.getD k 0) then (l.take k).filter p ++ [l.getD k 0] else (l.take k).filter p := by
  rw [List.take_succ_eq_append_getElem h, List.filter_append]
  have : l.getD k 0 = l[k] := by simp [List.getD, h]
  rw [this]
  by_cases hp : p l[k] = true
  · rw [if_pos hp, List.filter_cons_of_pos hp]; rfl
  · rw [if_neg hp, List.filter_cons_of_neg hp]; simp

theorem maskOf_append (l m : List Int) : maskOf (l ++ m) = maskOf l ||| maskOf m := by
  have key : ∀ (m : List Int) (M : Nat), m.foldl addM M = M ||| m.foldl addM 0 := by
    intro m
    induction m with
    | nil => intro M; simp
    | cons x t ih =>
      intro M
      rw [List.foldl_cons, List.foldl_cons, ih (addM M x), ih (addM 0 x), ← Nat.or_assoc]
      congr 1
      unfold addM
      split <;> simp
  unfold maskOf
  rw [List.foldl_append, key]
theorem maskOf_single (i : Int) : maskOf [i] = addM 0 i := rfl

/-- The set of the ascending list of a set is the set. -/
theorem maskOf_memS {M : Nat} (h : Small M) : maskOf (memM M 4096) = M := by
  refine memM_inj (maskOf_small _) h ?_
  rw [← ofL_mask]
  have key : ∀ (l acc : List Int), (acc ++ l).Pairwise (· < ·) → (∀ x ∈ acc ++ l, 0 ≤ x ∧ x ≤ 4095) → l.foldl withL acc = acc ++ l := by
    intro l
    induction l with
    | nil => intro acc _ _; simp
    | cons x t ih =>
      intro acc hp hb
      rw [List.foldl_cons]
      have hx := hb x (by simp)
      have hlt : ∀ y ∈ acc, y < x := fun y hy => (List.pairwise_append.1 hp).2.2 y hy x List.mem_cons_self
      have e : withL acc x = acc ++ [x] := by
        unfold withL
        have hn : x ∉ acc := fun h => by have := hlt x h; omega
        rw [if_neg (fun h => h.elim (fun h => by omega) fun h => h.elim (fun h => by omega) hn)]
        have h2 := ins_due x acc [] (List.pairwise_append.1 hp).1 hn
        unfold insL
        rw [h2, List.filter_eq_self.2 (fun y hy => by simpa using hlt y hy), List.filter_eq_nil_iff.2 (fun y hy => by have := hlt y hy; simp; omega)]
        simp
      rw [e, ih (acc ++ [x]) (by simpa using hp) (by simpa using hb)]
      simp
  have := key (memM M 4096) [] (by simpa using memM_sorted M 4096) (fun x hx => by
    have := memM_mem.1 (by simpa using hx)
    omega)
  simpa [ofL] using this
end Go.Proofs.YtccanbjnbmihgaaDoor
