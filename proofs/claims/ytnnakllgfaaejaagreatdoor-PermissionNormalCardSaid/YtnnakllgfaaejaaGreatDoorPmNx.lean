/-
  Permissions, in plain words: what lists imply, and their normal lists.
-/
import Derived.Test.YtnnakllgfaaejaaGreatDoorPmM
namespace Go.Proofs.YtnnakllgfaaejaaGreatDoor
open Go.RowKit
set_option linter.unusedSimpArgs false
set_option linter.unusedVariables false

/-- The length of a permission. -/
def mP (x : Per) : Nat := 2 * dpS x.p + (if x.d then 0 else 1)
theorem mP_lt {x y : Per} (h : impP x y = true) (hne : x ≠ y) : mP x < mP y := by
  obtain ⟨a1, a2, a3⟩ := (impP_iff _ _).1 h
  rcases a3 with e | ⟨b1, b2, b3⟩
  · exact absurd e hne
  · obtain ⟨ys, xs, c1, c2, c3⟩ := (within_iff _ _).1 b3
    have dy : dpS y.p = ys.length := by unfold dpS; rw [c1]; rfl
    have dx : dpS x.p = xs.length := by unfold dpS; rw [c2]; rfl
    unfold mP
    rw [dx, dy, b1]
    have hle := c3.length_le
    by_cases hl : xs.length = ys.length
    · have e1 : xs = ys := c3.eq_of_length_le (by omega)
      subst e1
      have e2 : x.p = y.p := namesS_inj c2 c1
      cases hd : y.d with
      | true => exact absurd (per_ext b2 e2 (by rw [hd]; exact b1)) hne
      | false => simp
    · simp only [if_true]
      split <;> omega
/-- Above each permission of a list there is one that no other one implies. -/
theorem top_ex (l : List Per) : ∀ (n : Nat) (x : Per), mP x ≤ n → x ∈ l → okP x = true → ∃ z ∈ l, okP z = true ∧ excP l z = false ∧ impP z x = true
  | n, x, hn, hx, ho => by
    cases he : excP l x with
    | false => exact ⟨x, hx, ho, he, by rw [impP_refl]; exact ho⟩
    | true =>
      obtain ⟨y, h1, h2, h3⟩ := (excP_iff _ _).1 he
      have hlt := mP_lt h3 h2
      cases n with
      | zero => omega
      | succ m =>
        obtain ⟨z, g1, g2, g3, g4⟩ := top_ex l m y (by omega) h1 ((impP_iff _ _).1 h3).1
        exact ⟨z, g1, g2, g3, impP_trans g4 h3⟩
theorem anyI_norm {l r : List Per} (h : NormS l r) (x : Per) : anyI r x = anyI l x := by
  rw [Bool.eq_iff_iff, anyI_iff, anyI_iff]
  constructor
  · rintro ⟨y, h1, h2⟩; exact ⟨y, ((h.2 y).1 h1).1, h2⟩
  · rintro ⟨y, h1, h2⟩
    obtain ⟨z, g1, g2, g3, g4⟩ := top_ex l _ y (Nat.le_refl _) h1 ((impP_iff _ _).1 h2).1
    exact ⟨z, (h.2 z).2 ⟨g1, g2, g3⟩, impP_trans g4 h2⟩
theorem norm_mem_of {l m r : List Per} (h : NormS l r) (he : ∀ x, anyI l x = anyI m x) {x : Per} (hx : x ∈ r) : x ∈ m ∧ okP x = true ∧ excP m x = false := by
  obtain ⟨h1, h2, h3⟩ := (h.2 x).1 hx
  have a1 : anyI l x = true := (anyI_iff _ _).2 ⟨x, h1, by rw [impP_refl]; exact h2⟩
  rw [he] at a1
  obtain ⟨y, b1, b2⟩ := (anyI_iff _ _).1 a1
  have key : ∀ y ∈ m, impP y x = true → y = x := fun y b1 b2 => by
    have a2 : anyI m y = true := (anyI_iff _ _).2 ⟨y, b1, by rw [impP_refl]; exact ((impP_iff _ _).1 b2).1⟩
    rw [← he] at a2
    obtain ⟨z, c1, c2⟩ := (anyI_iff _ _).1 a2
    have c3 := impP_trans c2 b2
    by_cases e : z = x
    · subst e; exact impP_anti b2 c2
    · have : excP l x = true := (excP_iff _ _).2 ⟨z, c1, e, c3⟩
      rw [h3] at this; cases this
  have e := key y b1 b2
  subst e
  refine ⟨b1, h2, ?_⟩
  rw [Bool.eq_false_iff]
  intro hh
  obtain ⟨z, c1, c2, c3⟩ := (excP_iff _ _).1 hh
  exact c2 (key z c1 c3)
theorem norm_eq_iff {l m r s : List Per} (h : NormS l r) (k : NormS m s) : r = s ↔ ∀ x, anyI l x = anyI m x := by
  constructor
  · intro e x
    subst e
    rw [← anyI_norm h, ← anyI_norm k]
  · intro he
    refine sortQ_unique h.1 k.1 fun x => ⟨fun hx => (k.2 x).2 (norm_mem_of h he hx), fun hx => (h.2 x).2 (norm_mem_of k (fun y => (he y).symm) hx)⟩
theorem norm_norm {l r s : List Per} (h : NormS l r) (k : NormS r s) : s = r := (norm_eq_iff k h).2 fun x => anyI_norm h x
theorem anyI_append (l m : List Per) (x : Per) : anyI (l ++ m) x = (anyI l x || anyI m x) := by unfold anyI; rw [List.any_append]
theorem anyI_self {l : List Per} {x : Per} (hx : x ∈ l) (ho : okP x = true) : anyI l x = true := (anyI_iff _ _).2 ⟨x, hx, by rw [impP_refl]; exact ho⟩
theorem anyI_up {l : List Per} {x y : Per} (h : anyI l x = true) (hi : impP x y = true) : anyI l y = true := by
  obtain ⟨z, h1, h2⟩ := (anyI_iff _ _).1 h
  exact (anyI_iff _ _).2 ⟨z, h1, impP_trans h2 hi⟩

/-- What a list has beyond another one. -/
def minS (r m : List Per) : List Per := r.filter fun x => !anyI m x
theorem min_nil {l m r : List Per} (h : NormS l r) : minS r m = [] ↔ ∀ x, anyI l x = true → anyI m x = true := by
  unfold minS
  rw [List.filter_eq_nil_iff]
  constructor
  · intro hh x hx
    rw [← anyI_norm h] at hx
    obtain ⟨y, h1, h2⟩ := (anyI_iff _ _).1 hx
    have := hh y h1
    simp only [Bool.not_eq_true', Bool.not_eq_false] at this
    exact anyI_up this h2
  · intro hh x hx
    have h3 := (h.2 x).1 hx
    rw [hh x (anyI_self h3.1 h3.2.1)]
    decide
theorem same_sum {a b r s : List Per} (h : NormS a r) (k : NormS (b ++ a) s) {q : List Per} (hq : NormS b q) : decide (r = s) = decide ((minS q a).length = 0) := by
  rw [Bool.eq_iff_iff, decide_eq_true_iff, decide_eq_true_iff, List.length_eq_zero_iff, min_nil hq, norm_eq_iff h k]
  constructor
  · intro hh x hx
    rw [hh x, anyI_append, hx]; rfl
  · intro hh x
    rw [anyI_append]
    cases hb : anyI b x with
    | false => rfl
    | true => rw [hh x hb]; rfl
/-- Adding what is missing. -/
theorem min_sum {a b r : List Per} (h : NormS a r) (x : Per) : anyI (b ++ minS r b) x = anyI (a ++ b) x := by
  rw [anyI_append, anyI_append, ← anyI_norm h x, Bool.or_comm (anyI r x)]
  cases hb : anyI b x with
  | true => rfl
  | false =>
    rw [Bool.false_or, Bool.false_or, Bool.eq_iff_iff, anyI_iff, anyI_iff]
    constructor
    · rintro ⟨y, h1, h2⟩; exact ⟨y, (List.mem_filter.1 h1).1, h2⟩
    · rintro ⟨y, h1, h2⟩
      refine ⟨y, List.mem_filter.2 ⟨h1, ?_⟩, h2⟩
      rw [Bool.not_eq_true', Bool.eq_false_iff]
      intro h3
      rw [anyI_up h3 h2] at hb; cases hb
theorem min_sum_nil {a b r s : List Per} (h : NormS a r) : minS r (b ++ minS r b) = [] := by
  rw [min_nil h]
  intro x hx
  rw [min_sum h, anyI_append, hx]; rfl

/-- Two permissions that cover something together: one implies the other. -/
theorem chain {x y z : Per} (h : impP x z = true) (k : impP y z = true) : impP x y = true ∨ impP y x = true := by
  obtain ⟨a1, a2, a3⟩ := (impP_iff _ _).1 h
  obtain ⟨b1, b2, b3⟩ := (impP_iff _ _).1 k
  rcases a3 with e | ⟨c1, c2, c3⟩
  · subst e; exact Or.inr k
  · rcases b3 with e | ⟨d1, d2, d3⟩
    · subst e; exact Or.inl h
    · obtain ⟨zs, xs, e1, e2, e3⟩ := (within_iff _ _).1 c3
      obtain ⟨zs', ys, f1, f2, f3⟩ := (within_iff _ _).1 d3
      rw [e1] at f1; cases f1
      rcases List.prefix_or_prefix_of_prefix e3 f3 with g | g
      · exact Or.inl ((impP_iff _ _).2 ⟨a1, b1, Or.inr ⟨c1, c2.trans d2.symm, (within_iff _ _).2 ⟨ys, xs, f2, e2, g⟩⟩⟩)
      · exact Or.inr ((impP_iff _ _).2 ⟨b1, a1, Or.inr ⟨d1, d2.trans c2.symm, (within_iff _ _).2 ⟨xs, ys, e2, f2, g⟩⟩⟩)
/-- What both lists imply. -/
theorem com_any (l m : List Per) (x : Per) : anyI (l.filter (anyI m) ++ m.filter (anyI l)) x = (anyI l x && anyI m x) := by
  rw [anyI_append, Bool.eq_iff_iff, Bool.or_eq_true, Bool.and_eq_true]
  constructor
  · rintro (h | h)
    · obtain ⟨y, h1, h2⟩ := (anyI_iff _ _).1 h
      obtain ⟨g1, g2⟩ := List.mem_filter.1 h1
      exact ⟨(anyI_iff _ _).2 ⟨y, g1, h2⟩, anyI_up g2 h2⟩
    · obtain ⟨y, h1, h2⟩ := (anyI_iff _ _).1 h
      obtain ⟨g1, g2⟩ := List.mem_filter.1 h1
      exact ⟨anyI_up g2 h2, (anyI_iff _ _).2 ⟨y, g1, h2⟩⟩
  · rintro ⟨h, k⟩
    obtain ⟨y, h1, h2⟩ := (anyI_iff _ _).1 h
    obtain ⟨z, k1, k2⟩ := (anyI_iff _ _).1 k
    rcases chain h2 k2 with g | g
    · exact Or.inr ((anyI_iff _ _).2 ⟨z, List.mem_filter.2 ⟨k1, (anyI_iff _ _).2 ⟨y, h1, g⟩⟩, k2⟩)
    · exact Or.inl ((anyI_iff _ _).2 ⟨y, List.mem_filter.2 ⟨h1, (anyI_iff _ _).2 ⟨z, k1, g⟩⟩, h2⟩)
/-- The specification's list: in pairs. -/
def prRow (p : Per) (m : List Per) : List Per := m.flatMap fun q => (if impP p q then [q] else []) ++ (if impP q p then [p] else [])
def prL (l m : List Per) : List Per := l.flatMap fun p => prRow p m
theorem mem_prL (l m : List Per) (x : Per) : x ∈ prL l m ↔ (x ∈ m ∧ anyI l x = true) ∨ (x ∈ l ∧ anyI m x = true) := by
  unfold prL prRow
  simp only [List.mem_flatMap, List.mem_append]
  constructor
  · rintro ⟨p, hp, q, hq, h | h⟩
    · cases hi : impP p q with
      | false => rw [hi] at h; simp at h
      | true =>
        rw [hi] at h
        have e : x = q := by simpa using h
        subst e
        exact Or.inl ⟨hq, (anyI_iff _ _).2 ⟨p, hp, hi⟩⟩
    · cases hi : impP q p with
      | false => rw [hi] at h; simp at h
      | true =>
        rw [hi] at h
        have e : x = p := by simpa using h
        subst e
        exact Or.inr ⟨hp, (anyI_iff _ _).2 ⟨q, hq, hi⟩⟩
  · rintro (⟨h1, h2⟩ | ⟨h1, h2⟩)
    · obtain ⟨p, g1, g2⟩ := (anyI_iff _ _).1 h2
      exact ⟨p, g1, x, h1, Or.inl (by rw [g2]; simp)⟩
    · obtain ⟨q, g1, g2⟩ := (anyI_iff _ _).1 h2
      exact ⟨x, h1, q, g1, Or.inr (by rw [g2]; simp)⟩
theorem prL_com (l m : List Per) (x : Per) : x ∈ prL l m ↔ x ∈ l.filter (anyI m) ++ m.filter (anyI l) := by
  rw [mem_prL, List.mem_append, List.mem_filter, List.mem_filter]
  exact Or.comm
theorem com_comm (l m : List Per) (x : Per) : x ∈ l.filter (anyI m) ++ m.filter (anyI l) ↔ x ∈ m.filter (anyI l) ++ l.filter (anyI m) := by
  rw [List.mem_append, List.mem_append]; exact Or.comm
theorem prRow_next (p : Per) (m : List Per) (k : Nat) (h : k < m.length) : prRow p (m.take (k + 1)) = prRow p (m.take k) ++ ((if impP p (m.getD k per0) then [m.getD k per0] else []) ++ (if impP (m.getD k per0) p then [p] else [])) := by
  have e : m.take (k + 1) = m.take k ++ [m.getD k per0] := by rw [List.take_add_one]; simp [List.getD, h]
  rw [e]; unfold prRow; rw [List.flatMap_append]; simp
theorem prL_next (l m : List Per) (k : Nat) (h : k < l.length) : prL (l.take (k + 1)) m = prL (l.take k) m ++ prRow (l.getD k per0) m := by
  have e : l.take (k + 1) = l.take k ++ [l.getD k per0] := by rw [List.take_add_one]; simp [List.getD, h]
  rw [e]; unfold prL; rw [List.flatMap_append]; simp
theorem prRow_len (p : Per) (m : List Per) : (prRow p m).length ≤ 2 * m.length := by
  induction m with
  | nil => simp [prRow]
  | cons q m ih =>
    have e : prRow p (q :: m) = ((if impP p q then [q] else []) ++ (if impP q p then [p] else [])) ++ prRow p m := rfl
    rw [e, List.length_append, List.length_append, List.length_cons]
    have h1 : (if impP p q then [q] else []).length ≤ 1 := by split <;> simp
    have h2 : (if impP q p then [p] else []).length ≤ 1 := by split <;> simp
    omega
theorem prL_len (l m : List Per) (hm : m.length ≤ 8) : (prL l m).length ≤ 16 * l.length := by
  induction l with
  | nil => simp [prL]
  | cons p l ih =>
    have e : prL (p :: l) m = prRow p m ++ prL l m := rfl
    rw [e, List.length_append, List.length_cons]
    have := prRow_len p m
    omega

/-- The specification's insert. -/
def insG (p : Per) : List Per → List Per
  | [] => [p]
  | x :: l => if cmpP p x < 0 then p :: x :: l else x :: insG p l
def insP (l : List Per) (p : Per) : List Per := if p ∈ l then l else insG p l
theorem mem_insG (p x : Per) : ∀ l, x ∈ insG p l ↔ x = p ∨ x ∈ l
  | [] => by simp [insG]
  | y :: l => by
    unfold insG
    split
    · simp
    · rw [List.mem_cons, mem_insG p x l, List.mem_cons]; 
      constructor
      · rintro (h | h | h)
        · exact Or.inr (Or.inl h)
        · exact Or.inl h
        · exact Or.inr (Or.inr h)
      · rintro (h | h | h)
        · exact Or.inr (Or.inl h)
        · exact Or.inl h
        · exact Or.inr (Or.inr h)
theorem sort_insG {p : Per} (hp : okP p = true) : ∀ {l : List Per}, SortQ l → p ∉ l → SortQ (insG p l)
  | [], _, _ => ⟨by simp [insG], fun x hx => by simp [insG] at hx; subst hx; exact hp⟩
  | y :: l, h, hn => by
    unfold insG
    split
    next hlt =>
      refine ⟨List.pairwise_cons.2 ⟨fun z hz => ?_, h.1⟩, fun z hz => ?_⟩
      · rcases List.mem_cons.1 hz with e | hz
        · subst e; exact hlt
        · exact cmpP_trans hp (h.2 y (by simp)) (h.2 z (List.mem_cons_of_mem _ hz)) hlt (h.head z hz)
      · rcases List.mem_cons.1 hz with e | hz
        · subst e; exact hp
        · exact h.2 z hz
    next hlt =>
      have hpy : p ≠ y := fun e => hn (by rw [e]; simp)
      have hne : cmpP p y ≠ 0 := fun e => hpy ((cmpP_zero _ _).1 e)
      have hsw := cmpP_swap p y
      have ih := sort_insG hp h.tail (fun hm => hn (List.mem_cons_of_mem _ hm))
      refine ⟨List.pairwise_cons.2 ⟨fun z hz => ?_, ih.1⟩, fun z hz => ?_⟩
      · rcases (mem_insG p z l).1 hz with e | hz
        · subst e; omega
        · exact h.head z hz
      · rcases List.mem_cons.1 hz with e | hz
        · subst e; exact h.2 _ (by simp)
        · exact ih.2 z hz
theorem insP_sort {p : Per} (hp : okP p = true) {l : List Per} (h : SortQ l) : SortQ (insP l p) ∧ ∀ x, x ∈ insP l p ↔ x = p ∨ x ∈ l := by
  unfold insP
  split
  next hm => exact ⟨h, fun x => ⟨Or.inr, fun e => e.elim (fun e => by subst e; exact hm) id⟩⟩
  next hm => exact ⟨sort_insG hp h hm, fun x => mem_insG p x l⟩
theorem insG_len (p : Per) : ∀ l, (insG p l).length = l.length + 1
  | [] => rfl
  | y :: l => by
    unfold insG
    split
    · rfl
    · rw [List.length_cons, insG_len p l]; rfl
theorem insP_len (l : List Per) (p : Per) : (insP l p).length ≤ l.length + 1 := by
  unfold insP; split
  · omega
  · rw [insG_len]; exact Nat.le_refl _
/-- What insert has put after k rounds: with the new one, or without it yet. -/
def insT (p : Per) (l : List Per) (k : Nat) (done : Bool) : List Per := if done then insG p (l.take k) else l.take k
/-- Whether it stands already. -/
def insD (p : Per) (l : List Per) (k : Nat) : Bool := (l.take k).any fun x => decide (cmpP p x < 0)
theorem insG_snoc_done (p x : Per) : ∀ l : List Per, (l.any fun y => decide (cmpP p y < 0)) = true → insG p (l ++ [x]) = insG p l ++ [x]
  | [], h => by simp at h
  | y :: l, h => by
    show insG p (y :: (l ++ [x])) = _
    unfold insG
    by_cases e : cmpP p y < 0
    · rw [if_pos e, if_pos e]; rfl
    · rw [if_neg e, if_neg e]
      rw [List.any_cons] at h
      rw [insG_snoc_done p x l (by simpa [e] using h)]; rfl
theorem insG_snoc (p x : Per) : ∀ l : List Per, (l.any fun y => decide (cmpP p y < 0)) = false → insG p (l ++ [x]) = if cmpP p x < 0 then l ++ [p, x] else l ++ [x, p]
  | [], h => by
    show insG p [x] = _
    unfold insG
    split <;> rfl
  | y :: l, h => by
    rw [List.any_cons, Bool.or_eq_false_iff] at h
    show insG p (y :: (l ++ [x])) = _
    unfold insG
    rw [if_neg (by simpa using h.1), insG_snoc p x l h.2]
    split <;> rfl
theorem insG_end (p : Per) : ∀ l : List Per, (l.any fun y => decide (cmpP p y < 0)) = false → insG p l = l ++ [p]
  | [], _ => rfl
  | y :: l, h => by
    rw [List.any_cons, Bool.or_eq_false_iff] at h
    unfold insG
    rw [if_neg (by simpa using h.1), insG_end p l h.2]; rfl
theorem insT_next (p : Per) (l : List Per) (k : Nat) (h : k < l.length) :
    insT p l (k + 1) (insD p l (k + 1)) = (if insD p l k then insT p l k (insD p l k) ++ [l.getD k per0] else if cmpP p (l.getD k per0) < 0 then (insT p l k (insD p l k) ++ [p]) ++ [l.getD k per0] else insT p l k (insD p l k) ++ [l.getD k per0]) ∧
    insD p l (k + 1) = (insD p l k || decide (cmpP p (l.getD k per0) < 0)) := by
  have e : l.take (k + 1) = l.take k ++ [l.getD k per0] := by rw [List.take_add_one]; simp [List.getD, h]
  have hd : insD p l (k + 1) = (insD p l k || decide (cmpP p (l.getD k per0) < 0)) := by
    unfold insD; rw [e, List.any_append]; simp
  refine ⟨?_, hd⟩
  rw [hd]
  cases h1 : insD p l k with
  | true =>
    simp only [Bool.true_or, if_true, insT, e]
    exact insG_snoc_done p _ _ h1
  | false =>
    simp only [Bool.false_or]
    by_cases h2 : cmpP p (l.getD k per0) < 0
    · simp only [h2, decide_true, if_true, insT, e]
      rw [insG_snoc p _ _ h1, if_pos h2]; simp
    · simp only [h2, decide_false, if_false, insT, e]
      simp
theorem insT_end (p : Per) (l : List Per) : insG p l = if insD p l l.length then insT p l l.length true else l ++ [p] := by
  unfold insD insT
  rw [List.take_length]
  cases h : (l.any fun y => decide (cmpP p y < 0)) with
  | true => simp
  | false => simp; exact insG_end p l h

/-- The specification's normal list, step by step. -/
def nrmStep (l : List Per) (acc : List Per) (p : Per) : List Per := if okP p && !excP l p then insP acc p else acc
theorem nrm_inv (l : List Per) : ∀ (m acc : List Per), SortQ acc → SortQ (m.foldl (nrmStep l) acc) ∧ ∀ x, x ∈ m.foldl (nrmStep l) acc ↔ x ∈ acc ∨ (x ∈ m ∧ okP x = true ∧ excP l x = false)
  | [], acc, h => ⟨h, fun x => by simp⟩
  | p :: m, acc, h => by
    rw [List.foldl_cons]
    have hs : SortQ (nrmStep l acc p) ∧ ∀ x, x ∈ nrmStep l acc p ↔ x ∈ acc ∨ (x = p ∧ okP p = true ∧ excP l p = false) := by
      unfold nrmStep
      split
      next hh =>
        rw [Bool.and_eq_true, Bool.not_eq_true'] at hh
        obtain ⟨g1, g2⟩ := insP_sort hh.1 h
        exact ⟨g1, fun x => by rw [g2]; exact ⟨fun e => e.elim (fun e => Or.inr ⟨e, hh⟩) Or.inl, fun e => e.elim Or.inr (fun e => Or.inl e.1)⟩⟩
      next hh =>
        rw [Bool.and_eq_true, Bool.not_eq_true'] at hh
        exact ⟨h, fun x => ⟨Or.inl, fun e => e.elim id (fun e => absurd e.2 hh)⟩⟩
    obtain ⟨g1, g2⟩ := nrm_inv l m _ hs.1
    refine ⟨g1, fun x => ?_⟩
    rw [g2, hs.2]
    constructor
    · rintro ((h | ⟨h1, h2⟩) | ⟨h1, h2⟩)
      · exact Or.inl h
      · subst h1; exact Or.inr ⟨by simp, h2⟩
      · exact Or.inr ⟨List.mem_cons_of_mem _ h1, h2⟩
    · rintro (h | ⟨h1, h2⟩)
      · exact Or.inl (Or.inl h)
      · rcases List.mem_cons.1 h1 with e | h1
        · subst e; exact Or.inl (Or.inr ⟨rfl, h2⟩)
        · exact Or.inr ⟨h1, h2⟩
def nrmF (l : List Per) (k : Nat) : List Per := (l.take k).foldl (nrmStep l) []
theorem nrmF_norm (l : List Per) : NormS l (nrmF l l.length) := by
  unfold nrmF
  rw [List.take_length]
  obtain ⟨h1, h2⟩ := nrm_inv l l [] ⟨List.Pairwise.nil, by simp⟩
  exact ⟨h1, fun x => by rw [h2]; simp⟩
theorem nrmF_next (l : List Per) (k : Nat) (h : k < l.length) : nrmF l (k + 1) = nrmStep l (nrmF l k) (l.getD k per0) := by
  have e : l.take (k + 1) = l.take k ++ [l.getD k per0] := by rw [List.take_add_one]; simp [List.getD, h]
  unfold nrmF; rw [e, List.foldl_append]; rfl
theorem nrmF_len (l : List Per) (k : Nat) : (nrmF l k).length ≤ k := by
  induction k with
  | zero => simp [nrmF]
  | succ k ih =>
    by_cases h : k < l.length
    · rw [nrmF_next l k h]
      unfold nrmStep
      split
      · have := insP_len (nrmF l k) (l.getD k per0); omega
      · omega
    · have e : l.take (k + 1) = l.take k := by rw [List.take_of_length_le (by omega), List.take_of_length_le (by omega)]
      unfold nrmF at *
      rw [e]; omega
theorem nrmF_mem (l : List Per) (k : Nat) {x : Per} (h : x ∈ nrmF l k) : x ∈ l ∧ okP x = true := by
  have := ((nrm_inv l (l.take k) [] ⟨List.Pairwise.nil, by simp⟩).2 x).1 h
  simp only [List.not_mem_nil, false_or] at this
  exact ⟨List.mem_of_mem_take this.1, this.2.1⟩
/-- One after the other: whether one of the first k implies, or covers. -/
theorem any_nextI (l : List Per) (k : Nat) (h : k < l.length) (x : Per) : anyI (l.take (k + 1)) x = (anyI (l.take k) x || impP (l.getD k per0) x) := by
  have e : l.take (k + 1) = l.take k ++ [l.getD k per0] := by rw [List.take_add_one]; simp [List.getD, h]
  rw [e, anyI_append]; simp [anyI]
theorem exc_next (l : List Per) (k : Nat) (h : k < l.length) (x : Per) : excP (l.take (k + 1)) x = (excP (l.take k) x || (!decide (l.getD k per0 = x) && impP (l.getD k per0) x)) := by
  have e : l.take (k + 1) = l.take k ++ [l.getD k per0] := by rw [List.take_add_one]; simp [List.getD, h]
  rw [e]; unfold excP; rw [List.any_append]; simp
end Go.Proofs.YtnnakllgfaaejaaGreatDoor
