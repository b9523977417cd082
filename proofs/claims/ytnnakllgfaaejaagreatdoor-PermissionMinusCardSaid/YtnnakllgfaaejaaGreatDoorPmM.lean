/-
  Permissions, in plain words: valid, implies, the order, normal lists.
-/
import Derived.Test.YtnnakllgfaaejaaGreatDoorPaAn
import Derived.Test.YtnnakllgfaaejaaGreatDoorPaQ
namespace Go.Proofs.YtnnakllgfaaejaaGreatDoor
open Go.RowKit
set_option linter.unusedSimpArgs false
set_option linter.unusedVariables false

/-- A permission: its action, its path, whether it is deep. -/
structure Per where
  a : ByteArray
  p : ByteArray
  d : Bool
instance : DecidableEq Per := fun x y => decidable_of_iff (x.a = y.a ∧ x.p = y.p ∧ x.d = y.d) ⟨fun ⟨h1, h2, h3⟩ => by cases x; cases y; simp_all, fun h => by rw [h]; exact ⟨rfl, rfl, rfl⟩⟩
theorem per_ext {x y : Per} (h1 : x.a = y.a) (h2 : x.p = y.p) (h3 : x.d = y.d) : x = y := by
  cases x; cases y; cases h1; cases h2; cases h3; rfl
def per0 : Per := ⟨⟨#[]⟩, ⟨#[]⟩, false⟩
instance : Inhabited Per := ⟨per0⟩
/-- How many names a path has. -/
def dpS (s : ByteArray) : Nat := ((namesS s).getD []).length
def okP (x : Per) : Bool := validS x.a && (namesS x.p).isSome && !(x.d && decide (dpS x.p = 8))
def chkP (x : Per) : Int := if validS x.a then (if okP x then 0 else 6) else 9
def impP (p q : Per) : Bool := okP p && okP q && (decide (p = q) || (p.d && decide (p.a = q.a) && withinS q.p p.p))
def cmpT (a b : ByteArray) : Int := match namesS a, namesS b with
  | some x, some y => cmpN x y
  | _, _ => cmpB a b
def cmpP (p q : Per) : Int := if p.a ≠ q.a then cmpB p.a q.a else if p.p ≠ q.p then cmpT p.p q.p else if p.d = q.d then 0 else if q.d then -1 else 1

theorem okP_path {x : Per} (h : okP x = true) : (namesS x.p).isSome = true := by
  unfold okP at h; simp only [Bool.and_eq_true] at h; exact h.1.2
theorem okP_name {x : Per} (h : okP x = true) : validS x.a = true := by
  unfold okP at h; simp only [Bool.and_eq_true] at h; exact h.1.1
theorem chkP_zero (x : Per) : chkP x = 0 ↔ okP x = true := by
  unfold chkP okP
  cases h1 : validS x.a <;> cases h2 : ((namesS x.p).isSome && !(x.d && decide (dpS x.p = 8))) <;> simp_all

/-- Within, by the names. -/
theorem within_iff (p q : ByteArray) : withinS p q = true ↔ ∃ a b, namesS p = some a ∧ namesS q = some b ∧ b <+: a := by
  unfold withinS
  cases hp : namesS p with
  | none => simp
  | some a =>
    cases hq : namesS q with
    | none => simp
    | some b =>
      simp only [decide_eq_true_eq, comS_whole]
      constructor
      · rintro ⟨_, h⟩; exact ⟨a, b, rfl, rfl, by rw [h]; exact List.take_prefix _ _⟩
      · rintro ⟨a', b', ha, hb, h⟩
        cases ha; cases hb
        exact ⟨h.length_le, List.prefix_iff_eq_take.1 h⟩
theorem within_refl {p : ByteArray} (h : (namesS p).isSome = true) : withinS p p = true := by
  obtain ⟨a, ha⟩ := Option.isSome_iff_exists.1 h
  exact (within_iff p p).2 ⟨a, a, ha, ha, List.prefix_refl _⟩
theorem within_trans {p q r : ByteArray} (h1 : withinS p q = true) (h2 : withinS q r = true) : withinS p r = true := by
  obtain ⟨a, b, ha, hb, h3⟩ := (within_iff _ _).1 h1
  obtain ⟨b', c, hb', hc, h4⟩ := (within_iff _ _).1 h2
  rw [hb] at hb'; cases hb'
  exact (within_iff _ _).2 ⟨a, c, ha, hc, h4.trans h3⟩
theorem within_anti {p q : ByteArray} (h1 : withinS p q = true) (h2 : withinS q p = true) : p = q := by
  obtain ⟨a, b, ha, hb, h3⟩ := (within_iff _ _).1 h1
  obtain ⟨b', c, hb', hc, h4⟩ := (within_iff _ _).1 h2
  rw [hb] at hb'; cases hb'
  rw [ha] at hc; cases hc
  have : b = a := h3.eq_of_length_le h4.length_le
  subst this
  exact namesS_inj ha hb

theorem impP_iff (p q : Per) : impP p q = true ↔ okP p = true ∧ okP q = true ∧ (p = q ∨ p.d = true ∧ p.a = q.a ∧ withinS q.p p.p = true) := by
  unfold impP
  simp only [Bool.and_eq_true, Bool.or_eq_true, decide_eq_true_eq]
  constructor
  · rintro ⟨⟨h1, h2⟩, h3⟩; exact ⟨h1, h2, h3.imp id fun ⟨⟨a, b⟩, c⟩ => ⟨a, b, c⟩⟩
  · rintro ⟨h1, h2, h3⟩; exact ⟨⟨h1, h2⟩, h3.imp id fun ⟨a, b, c⟩ => ⟨⟨a, b⟩, c⟩⟩
theorem impP_refl (p : Per) : impP p p = okP p := by
  cases h : okP p with
  | true => exact (impP_iff p p).2 ⟨h, h, Or.inl rfl⟩
  | false => unfold impP; rw [h]; rfl
theorem impP_trans {p q r : Per} (h1 : impP p q = true) (h2 : impP q r = true) : impP p r = true := by
  obtain ⟨a1, a2, a3⟩ := (impP_iff _ _).1 h1
  obtain ⟨b1, b2, b3⟩ := (impP_iff _ _).1 h2
  refine (impP_iff _ _).2 ⟨a1, b2, ?_⟩
  rcases a3 with rfl | ⟨c1, c2, c3⟩
  · exact b3
  · rcases b3 with rfl | ⟨d1, d2, d3⟩
    · exact Or.inr ⟨c1, c2, c3⟩
    · exact Or.inr ⟨c1, c2.trans d2, within_trans d3 c3⟩
theorem impP_anti {p q : Per} (h1 : impP p q = true) (h2 : impP q p = true) : p = q := by
  obtain ⟨a1, a2, a3⟩ := (impP_iff _ _).1 h1
  obtain ⟨b1, b2, b3⟩ := (impP_iff _ _).1 h2
  rcases a3 with h | ⟨c1, c2, c3⟩
  · exact h
  · rcases b3 with h | ⟨d1, d2, d3⟩
    · exact h.symm
    · have := within_anti c3 d3
      cases p; cases q; simp_all

/-- Covers: of a request that is valid. -/
def covP (p : Per) (a s : ByteArray) : Bool := impP p ⟨a, s, false⟩

theorem cmpT_zero (a b : ByteArray) : cmpT a b = 0 ↔ a = b := by
  unfold cmpT
  cases ha : namesS a with
  | none => exact cmpB_zero
  | some x =>
    cases hb : namesS b with
    | none => exact cmpB_zero
    | some y =>
      show cmpN x y = 0 ↔ _
      rw [cmpN_zero]
      exact ⟨fun e => by subst e; exact namesS_inj ha hb, fun e => by subst e; rw [ha] at hb; injection hb⟩
theorem cmpT_swap (a b : ByteArray) : cmpT b a = - cmpT a b := by
  unfold cmpT
  cases ha : namesS a with
  | none => cases hb : namesS b <;> exact cmpB_swap a b
  | some x =>
    cases hb : namesS b with
    | none => exact cmpB_swap a b
    | some y => exact cmpN_swap x y
theorem cmpP_zero (x y : Per) : cmpP x y = 0 ↔ x = y := by
  unfold cmpP
  by_cases h1 : x.a = y.a
  · rw [if_neg (by simpa using h1)]
    by_cases h2 : x.p = y.p
    · rw [if_neg (by simpa using h2)]
      by_cases h3 : x.d = y.d
      · rw [if_pos h3]; exact ⟨fun _ => by cases x; cases y; simp_all, fun _ => rfl⟩
      · rw [if_neg h3]
        refine ⟨fun e => ?_, fun e => absurd (by rw [e]) h3⟩
        split at e <;> omega
    · rw [if_pos h2, cmpT_zero]
      exact ⟨fun e => absurd e h2, fun e => by rw [e]⟩
  · rw [if_pos h1, cmpB_zero]
    exact ⟨fun e => absurd e h1, fun e => by rw [e]⟩
theorem cmpP_swap (x y : Per) : cmpP y x = - cmpP x y := by
  unfold cmpP
  by_cases h1 : x.a = y.a
  · have g1 : y.a = x.a := h1.symm
    rw [if_neg (show ¬ (y.a ≠ x.a) from fun h => h g1), if_neg (show ¬ (x.a ≠ y.a) from fun h => h h1)]
    by_cases h2 : x.p = y.p
    · have g2 : y.p = x.p := h2.symm
      rw [if_neg (show ¬ (y.p ≠ x.p) from fun h => h g2), if_neg (show ¬ (x.p ≠ y.p) from fun h => h h2)]
      cases x.d <;> cases y.d <;> rfl
    · rw [if_pos (show y.p ≠ x.p from fun e => h2 e.symm), if_pos (show x.p ≠ y.p from h2)]; exact cmpT_swap _ _
  · rw [if_pos (show y.a ≠ x.a from fun e => h1 e.symm), if_pos (show x.a ≠ y.a from h1)]; exact cmpB_swap _ _
theorem cmpT_trans {a b c : ByteArray} (ha : (namesS a).isSome = true) (hb : (namesS b).isSome = true) (hc : (namesS c).isSome = true) (h1 : cmpT a b < 0) (h2 : cmpT b c < 0) : cmpT a c < 0 := by
  obtain ⟨x, ha⟩ := Option.isSome_iff_exists.1 ha
  obtain ⟨y, hb⟩ := Option.isSome_iff_exists.1 hb
  obtain ⟨z, hc⟩ := Option.isSome_iff_exists.1 hc
  unfold cmpT at *
  rw [ha, hb] at h1
  rw [hb, hc] at h2
  rw [ha, hc]
  exact cmpN_trans x y z h1 h2
theorem cmpB_trans {a b c : ByteArray} (h1 : cmpB a b < 0) (h2 : cmpB b c < 0) : cmpB a c < 0 := cb_trans _ _ _ h1 h2
theorem cmpP_trans {x y z : Per} (hx : okP x = true) (hy : okP y = true) (hz : okP z = true) (h1 : cmpP x y < 0) (h2 : cmpP y z < 0) : cmpP x z < 0 := by
  have px := okP_path hx; have py := okP_path hy; have pz := okP_path hz
  unfold cmpP at *
  by_cases e1 : x.a = y.a
  · rw [if_neg (by simpa using e1)] at h1
    by_cases e2 : y.a = z.a
    · rw [if_neg (by simpa using e2)] at h2
      rw [if_neg (by simpa using e1.trans e2)]
      by_cases f1 : x.p = y.p
      · rw [if_neg (by simpa using f1)] at h1
        by_cases f2 : y.p = z.p
        · rw [if_neg (by simpa using f2)] at h2
          rw [if_neg (by simpa using f1.trans f2)]
          revert h1 h2
          cases x.d <;> cases y.d <;> cases z.d <;> simp
        · rw [if_pos f2] at h2
          rw [f1, if_pos f2]; exact h2
      · rw [if_pos f1] at h1
        by_cases f2 : y.p = z.p
        · rw [if_pos (by rw [← f2]; exact f1), ← f2]; exact h1
        · rw [if_pos f2] at h2
          have h3 := cmpT_trans px py pz h1 h2
          rw [if_pos (fun e => by rw [(cmpT_zero _ _).2 e] at h3; omega)]
          exact h3
    · rw [if_pos e2] at h2
      rw [e1, if_pos e2]; exact h2
  · rw [if_pos e1] at h1
    by_cases e2 : y.a = z.a
    · rw [if_pos (by rw [← e2]; exact e1), ← e2]; exact h1
    · rw [if_pos e2] at h2
      have h3 := cmpB_trans h1 h2
      rw [if_pos (fun e => by rw [cmpB_zero.2 e] at h3; omega)]
      exact h3
theorem cmpB_vals (a b : ByteArray) : cmpB a b = -1 ∨ cmpB a b = 0 ∨ cmpB a b = 1 := cb_vals _ _

/-- An ascending list of valid permissions. -/
def SortQ (l : List Per) : Prop := l.Pairwise (fun a b => cmpP a b < 0) ∧ ∀ x ∈ l, okP x = true
theorem SortQ.tail {x : Per} {l : List Per} (h : SortQ (x :: l)) : SortQ l := ⟨(List.pairwise_cons.1 h.1).2, fun y hy => h.2 y (List.mem_cons_of_mem _ hy)⟩
theorem SortQ.head {x : Per} {l : List Per} (h : SortQ (x :: l)) : ∀ y ∈ l, cmpP x y < 0 := (List.pairwise_cons.1 h.1).1
theorem SortQ.notMem {x : Per} {l : List Per} (h : SortQ (x :: l)) : x ∉ l := fun hm => by
  have h1 := h.head x hm
  rw [(cmpP_zero x x).2 rfl] at h1
  omega
theorem SortQ.nodup {l : List Per} (h : SortQ l) : l.Nodup := by
  induction l with
  | nil => exact List.nodup_nil
  | cons x l ih => exact List.nodup_cons.2 ⟨h.notMem, ih h.tail⟩
theorem sortQ_unique : ∀ {l m : List Per}, SortQ l → SortQ m → (∀ x, x ∈ l ↔ x ∈ m) → l = m
  | [], [], _, _, _ => rfl
  | [], y :: m, _, _, h => absurd ((h y).2 (by simp)) (by simp)
  | x :: l, [], _, _, h => absurd ((h x).1 (by simp)) (by simp)
  | x :: l, y :: m, hl, hm, h => by
    have e : x = y := by
      rcases List.mem_cons.1 ((h x).1 (by simp)) with e | h1
      · exact e
      · rcases List.mem_cons.1 ((h y).2 (by simp)) with e | h2
        · exact e.symm
        · have a1 := hm.head x h1
          have a2 := hl.head y h2
          have a3 := cmpP_swap x y
          omega
    subst e
    rw [sortQ_unique hl.tail hm.tail fun z => ?_]
    constructor
    · intro hz
      rcases List.mem_cons.1 ((h z).1 (List.mem_cons_of_mem _ hz)) with e | h1
      · subst e; exact absurd hz hl.notMem
      · exact h1
    · intro hz
      rcases List.mem_cons.1 ((h z).2 (List.mem_cons_of_mem _ hz)) with e | h1
      · subst e; exact absurd hz hm.notMem
      · exact h1
theorem SortQ.filter {l : List Per} (h : SortQ l) (f : Per → Bool) : SortQ (l.filter f) := ⟨h.1.filter f, fun x hx => h.2 x (List.mem_filter.1 hx).1⟩

/-- Whether a permission of the list other than x implies x. -/
def excP (l : List Per) (x : Per) : Bool := l.any fun y => !decide (y = x) && impP y x
/-- Whether a permission of the list implies x. -/
def anyI (l : List Per) (x : Per) : Bool := l.any fun y => impP y x
/-- The normal list. -/
def NormS (l r : List Per) : Prop := SortQ r ∧ ∀ x, x ∈ r ↔ x ∈ l ∧ okP x = true ∧ excP l x = false
theorem NormS.unique {l r s : List Per} (h : NormS l r) (k : NormS l s) : r = s := sortQ_unique h.1 k.1 fun x => by rw [h.2, k.2]
theorem NormS.same {l m r : List Per} (h : NormS l r) (hm : ∀ x, x ∈ l ↔ x ∈ m) : NormS m r := by
  have he : ∀ x, excP l x = excP m x := fun x => by
    rw [Bool.eq_iff_iff]; unfold excP; rw [List.any_eq_true, List.any_eq_true]
    exact ⟨fun ⟨y, h1, h2⟩ => ⟨y, (hm y).1 h1, h2⟩, fun ⟨y, h1, h2⟩ => ⟨y, (hm y).2 h1, h2⟩⟩
  exact ⟨h.1, fun x => by rw [h.2, hm, he]⟩
theorem excP_iff (l : List Per) (x : Per) : excP l x = true ↔ ∃ y ∈ l, y ≠ x ∧ impP y x = true := by
  unfold excP
  rw [List.any_eq_true]
  simp only [Bool.and_eq_true, Bool.not_eq_true', decide_eq_false_iff_not, ne_eq]
theorem anyI_iff (l : List Per) (x : Per) : anyI l x = true ↔ ∃ y ∈ l, impP y x = true := by
  unfold anyI; rw [List.any_eq_true]
theorem anyI_exc {l : List Per} {x : Per} (hx : okP x = true) : anyI l x = (decide (x ∈ l) || excP l x) := by
  rw [Bool.eq_iff_iff, Bool.or_eq_true, anyI_iff, excP_iff, decide_eq_true_eq]
  constructor
  · rintro ⟨y, h1, h2⟩
    by_cases e : y = x
    · subst e; exact Or.inl h1
    · exact Or.inr ⟨y, h1, e, h2⟩
  · rintro (h | ⟨y, h1, _, h2⟩)
    · exact ⟨x, h, by rw [impP_refl]; exact hx⟩
    · exact ⟨y, h1, h2⟩
theorem anyI_bad {l : List Per} {x : Per} (hx : okP x = false) : anyI l x = false := by
  rw [Bool.eq_false_iff]
  intro h
  obtain ⟨y, _, h2⟩ := (anyI_iff _ _).1 h
  rw [((impP_iff _ _).1 h2).2.1] at hx
  cases hx

/-- What the program asks its map for. -/
def askP (M : Per → Bool) (x : Per) : Bool := (!x.d && M ⟨x.a, x.p, true⟩) || (ancS x.p).any fun u => M ⟨x.a, u, true⟩
def memP (l : List Per) (x : Per) : Bool := decide (x ∈ l) && okP x
theorem memP_iff (l : List Per) (x : Per) : memP l x = true ↔ x ∈ l ∧ okP x = true := by
  unfold memP; rw [Bool.and_eq_true, decide_eq_true_eq]
theorem mem_anc {s u : ByteArray} {xs : List ByteArray} (h : namesS s = some xs) : u ∈ ancS s ↔ ∃ k, k < xs.length ∧ u = pathS (xs.take k) := by
  unfold ancS
  rw [h]
  simp only [List.mem_map, List.mem_range]
  exact ⟨fun ⟨k, h1, h2⟩ => ⟨k, h1, h2.symm⟩, fun ⟨k, h1, h2⟩ => ⟨k, h1, h2.symm⟩⟩
theorem nm_take {s : ByteArray} {xs : List ByteArray} (h : namesS s = some xs) (k : Nat) : namesS (pathS (xs.take k)) = some (xs.take k) := by
  obtain ⟨_, h2, h3⟩ := pathS_names h
  exact namesS_path (List.all_eq_true.2 fun y hy => List.all_eq_true.1 h2 y (List.mem_of_mem_take hy)) (by rw [List.length_take]; omega)
theorem ask_exc {l : List Per} {x : Per} (hx : okP x = true) : askP (memP l) x = excP l x := by
  obtain ⟨xs, hn⟩ := Option.isSome_iff_exists.1 (okP_path hx)
  rw [Bool.eq_iff_iff, excP_iff]
  unfold askP
  rw [Bool.or_eq_true, Bool.and_eq_true, List.any_eq_true]
  constructor
  · rintro (⟨h1, h2⟩ | ⟨u, h1, h2⟩)
    · obtain ⟨h3, h4⟩ := (memP_iff _ _).1 h2
      have hd : x.d = false := by simpa using h1
      refine ⟨_, h3, fun e => ?_, (impP_iff _ _).2 ⟨h4, hx, Or.inr ⟨rfl, rfl, within_refl (okP_path hx)⟩⟩⟩
      have : x.d = true := by rw [← e]
      rw [hd] at this; cases this
    · obtain ⟨h3, h4⟩ := (memP_iff _ _).1 h2
      obtain ⟨k, hk, rfl⟩ := (mem_anc hn).1 h1
      refine ⟨_, h3, fun e => ?_, (impP_iff _ _).2 ⟨h4, hx, Or.inr ⟨rfl, rfl, (within_iff _ _).2 ⟨xs, xs.take k, hn, nm_take hn k, List.take_prefix _ _⟩⟩⟩⟩
      have e2 : pathS (xs.take k) = x.p := by rw [← e]
      have e3 := nm_take hn k
      rw [e2, hn] at e3
      injection e3 with e3
      have : xs.length = (xs.take k).length := by rw [← e3]
      rw [List.length_take] at this
      omega
  · rintro ⟨y, h1, h2, h3⟩
    obtain ⟨a1, a2, a3⟩ := (impP_iff _ _).1 h3
    rcases a3 with e | ⟨b1, b2, b3⟩
    · exact absurd e h2
    · obtain ⟨xs2, bs, c1, c2, c3⟩ := (within_iff _ _).1 b3
      rw [hn] at c1; cases c1
      have hm : memP l y = true := (memP_iff _ _).2 ⟨h1, a1⟩
      have e0 := List.prefix_iff_eq_take.1 c3
      by_cases hl : bs.length = xs.length
      · left
        have e1 : bs = xs := c3.eq_of_length_le (by omega)
        subst e1
        have e2 : y.p = x.p := namesS_inj c2 hn
        have hd : x.d = false := by
          cases hd : x.d with
          | false => rfl
          | true => exact absurd (per_ext b2 e2 (by rw [hd]; exact b1)) h2
        have e3 : y = ⟨x.a, x.p, true⟩ := per_ext b2 e2 b1
        rw [← e3]
        exact ⟨by rw [hd]; rfl, hm⟩
      · right
        have hlt : bs.length < xs.length := Nat.lt_of_le_of_ne c3.length_le hl
        refine ⟨y.p, (mem_anc hn).2 ⟨bs.length, hlt, by rw [← e0]; exact (pathS_names c2).1⟩, ?_⟩
        have e3 : y = ⟨x.a, y.p, true⟩ := per_ext b2 rfl b1
        rw [← e3]; exact hm
end Go.Proofs.YtnnakllgfaaejaaGreatDoor
