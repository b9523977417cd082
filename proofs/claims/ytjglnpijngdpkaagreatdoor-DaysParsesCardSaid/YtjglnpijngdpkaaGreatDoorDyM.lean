/-
  Days, in plain words: ascending lists of turns; what is inside.
-/
import Derived.Test.YtjglnpijngdpkaaGreatDoorCore
namespace Go.Proofs.YtjglnpijngdpkaaGreatDoor
open Go.RowKit
set_option linter.unusedSimpArgs false
set_option linter.unusedVariables false

/-- How many turns are at most d. -/
def cntD (t : List Int) (d : Int) : Nat := (t.filter fun x => decide (x ≤ d)).length
/-- Whether a number of turns leads inside. -/
def oddD (n : Nat) : Bool := decide (n % 2 = 1)
def inD (t : List Int) (d : Int) : Bool := oddD (cntD t d)
/-- The turns of a set. -/
structure CanD (t : List Int) : Prop where
  asc : t.Pairwise (· < ·)
  low : ∀ x ∈ t, 0 ≤ x
  top : ∀ x ∈ t, x ≤ 30001
  even : t.length % 2 = 0

theorem cntD_append (a b : List Int) (d : Int) : cntD (a ++ b) d = cntD a d + cntD b d := by unfold cntD; rw [List.filter_append, List.length_append]
theorem cntD_all {t : List Int} {d : Int} (h : ∀ x ∈ t, x ≤ d) : cntD t d = t.length := by
  unfold cntD; rw [List.filter_eq_self.2 fun x hx => decide_eq_true (h x hx)]
theorem cntD_none {t : List Int} {d : Int} (h : ∀ x ∈ t, d < x) : cntD t d = 0 := by
  unfold cntD; rw [List.filter_eq_nil_iff.2 fun x hx => by have := h x hx; simp; omega]; rfl
theorem cntD_split {t : List Int} {d : Int} (i : Nat) (hi : i ≤ t.length) (h : ∀ x ∈ t.take i, x ≤ d) (k : ∀ x ∈ t.drop i, d < x) : cntD t d = i := by
  have e : t = t.take i ++ t.drop i := (List.take_append_drop i t).symm
  rw [e, cntD_append, cntD_all h, cntD_none k, List.length_take]; omega
theorem cntD_le (t : List Int) (d : Int) : cntD t d ≤ t.length := List.length_filter_le _ _
theorem cntD_cons (x : Int) (t : List Int) (d : Int) : cntD (x :: t) d = (if x ≤ d then 1 else 0) + cntD t d := by
  unfold cntD
  rw [List.filter_cons]
  by_cases h : x ≤ d
  · rw [if_pos (decide_eq_true h), if_pos h, List.length_cons]; omega
  · rw [if_neg (by simp [h]), if_neg h]; omega
/-- A day is a turn exactly if it is inside and the day before is not, or the other way round. -/
theorem cntD_step {t : List Int} (h : t.Pairwise (· < ·)) (d : Int) : cntD t d = cntD t (d - 1) + (if d ∈ t then 1 else 0) := by
  induction t with
  | nil => rfl
  | cons x t ih =>
    obtain ⟨h1, h2⟩ := List.pairwise_cons.1 h
    have ih2 := ih h2
    rw [cntD_cons, cntD_cons]
    by_cases e : d = x
    · have hn : d ∉ t := fun hm => by have := h1 d hm; omega
      have e1 : (if x ≤ d then 1 else 0) = 1 := if_pos (by omega)
      have e2 : (if x ≤ d - 1 then 1 else 0) = 0 := if_neg (by omega)
      have e3 : (if d ∈ x :: t then 1 else 0) = 1 := if_pos (by rw [e]; simp)
      rw [if_neg hn] at ih2
      rw [e1, e2, e3]; omega
    · have hm : (d ∈ x :: t) ↔ d ∈ t := by rw [List.mem_cons]; exact ⟨fun h => h.resolve_left e, Or.inr⟩
      have e3 : (if d ∈ x :: t then 1 else 0) = (if d ∈ t then 1 else 0) := by
        by_cases q : d ∈ t
        · rw [if_pos q, if_pos (hm.2 q)]
        · rw [if_neg q, if_neg (fun h => q (hm.1 h))]
      have e4 : (if x ≤ d then 1 else 0) = (if x ≤ d - 1 then 1 else 0) := by
        by_cases q : x ≤ d
        · rw [if_pos q, if_pos (by omega)]
        · rw [if_neg q, if_neg (by omega)]
      rw [e3, e4]; omega
theorem oddD_succ (n : Nat) : oddD (n + 1) = !oddD n := by
  unfold oddD
  by_cases h : n % 2 = 1
  · rw [decide_eq_true h, decide_eq_false (by omega)]; rfl
  · rw [decide_eq_false h, decide_eq_true (by omega)]; rfl
theorem mem_inD {t : List Int} (h : t.Pairwise (· < ·)) (d : Int) : d ∈ t ↔ inD t d ≠ inD t (d - 1) := by
  unfold inD
  rw [cntD_step h]
  by_cases hm : d ∈ t
  · rw [if_pos hm, oddD_succ]
    exact ⟨fun _ => by cases oddD (cntD t (d - 1)) <;> decide, fun _ => hm⟩
  · rw [if_neg hm, Nat.add_zero]
    exact ⟨fun e => absurd e hm, fun e => absurd rfl e⟩
theorem ascI_unique : ∀ {l m : List Int}, l.Pairwise (· < ·) → m.Pairwise (· < ·) → (∀ x, x ∈ l ↔ x ∈ m) → l = m
  | [], [], _, _, _ => rfl
  | [], y :: m, _, _, h => absurd ((h y).2 (by simp)) (by simp)
  | x :: l, [], _, _, h => absurd ((h x).1 (by simp)) (by simp)
  | x :: l, y :: m, hl, hm, h => by
    obtain ⟨l1, l2⟩ := List.pairwise_cons.1 hl
    obtain ⟨m1, m2⟩ := List.pairwise_cons.1 hm
    have e : x = y := by
      rcases List.mem_cons.1 ((h x).1 (by simp)) with e | h1
      · exact e
      · rcases List.mem_cons.1 ((h y).2 (by simp)) with e | h2
        · exact e.symm
        · have a1 := m1 x h1
          have a2 := l1 y h2
          omega
    subst e
    rw [ascI_unique l2 m2 fun z => ?_]
    constructor
    · intro hz
      rcases List.mem_cons.1 ((h z).1 (List.mem_cons_of_mem _ hz)) with e | h1
      · subst e; exact absurd (l1 z hz) (by omega)
      · exact h1
    · intro hz
      rcases List.mem_cons.1 ((h z).2 (List.mem_cons_of_mem _ hz)) with e | h1
      · subst e; exact absurd (m1 z hz) (by omega)
      · exact h1
theorem CanD.out {t : List Int} (h : CanD t) {d : Int} (hd : 30001 ≤ d) : inD t d = false := by
  unfold inD
  rw [cntD_all fun x hx => Int.le_trans (h.top x hx) hd]
  unfold oddD
  have := h.even
  rw [decide_eq_false (by omega)]
theorem CanD.before {t : List Int} (h : CanD t) {d : Int} (hd : d < 0) : inD t d = false := by
  unfold inD
  rw [cntD_none fun x hx => by have := h.low x hx; omega]; rfl
theorem canD_unique {t u : List Int} (h : CanD t) (k : CanD u) (he : ∀ d, 0 ≤ d → d ≤ 30000 → inD t d = inD u d) : t = u := by
  have hall : ∀ d, inD t d = inD u d := fun d => by
    by_cases h1 : d < 0
    · rw [h.before h1, k.before h1]
    · by_cases h2 : d ≤ 30000
      · exact he d (by omega) h2
      · rw [h.out (by omega), k.out (by omega)]
  exact ascI_unique h.asc k.asc fun x => by rw [mem_inD h.asc, mem_inD k.asc, hall, hall]
theorem asc_len : ∀ {t : List Int} {a b : Int}, t.Pairwise (· < ·) → (∀ x ∈ t, a ≤ x ∧ x ≤ b) → (t.length : Int) ≤ max 0 (b - a + 1)
  | [], a, b, _, _ => by simp; omega
  | x :: t, a, b, h, k => by
    obtain ⟨h1, h2⟩ := List.pairwise_cons.1 h
    have := asc_len (a := x + 1) (b := b) h2 fun y hy => by have := h1 y hy; have := (k y (List.mem_cons_of_mem _ hy)).2; omega
    have hx := k x (by simp)
    rw [List.length_cons]; omega
theorem CanD.len {t : List Int} (h : CanD t) : t.length ≤ 30002 := by
  have := asc_len (a := 0) (b := 30001) h.asc fun x hx => ⟨h.low x hx, h.top x hx⟩
  omega
theorem CanD.nil : CanD [] := ⟨List.Pairwise.nil, by simp, by simp, rfl⟩
theorem inD_nil (d : Int) : inD [] d = false := rfl
/-- All days. -/
def allD : List Int := [0, 30001]
theorem allD_can : CanD allD := ⟨by decide, by decide, by decide, rfl⟩
theorem inD_allD {d : Int} (h0 : 0 ≤ d) (h1 : d ≤ 30000) : inD allD d = true := by
  unfold inD allD
  rw [cntD_cons, cntD_cons, if_pos h0, if_neg (by omega)]; rfl

/-- What stands while two sets are combined: all turns before p are done. -/
structure CmbI (f : Bool → Bool → Bool) (t u acc : List Int) (i j : Nat) (p : Int) : Prop where
  il : i ≤ t.length
  jl : j ≤ u.length
  tt : ∀ x ∈ t.take i, x < p
  td : ∀ x ∈ t.drop i, p ≤ x
  ut : ∀ x ∈ u.take j, x < p
  ud : ∀ x ∈ u.drop j, p ≤ x
  asc : acc.Pairwise (· < ·)
  low : ∀ x ∈ acc, 0 ≤ x ∧ x ≤ 30001
  lt : ∀ x ∈ acc, x < p
  par : oddD acc.length = f (oddD i) (oddD j)
  val : ∀ d, d < p → inD acc d = f (inD t d) (inD u d)
  len : acc.length ≤ i + j
theorem CmbI.start {f : Bool → Bool → Bool} (hf : f false false = false) {t u : List Int} (ht : CanD t) (hu : CanD u) : CmbI f t u [] 0 0 0 :=
  ⟨Nat.zero_le _, Nat.zero_le _, by simp, fun x hx => ht.low x (by simpa using hx), by simp, fun x hx => hu.low x (by simpa using hx), List.Pairwise.nil, by simp, by simp, by rw [show oddD 0 = false from rfl, hf]; rfl,
    fun d hd => by rw [ht.before hd, hu.before hd, hf]; rfl, by simp⟩
/-- The next turn of a list, or what lies behind all. -/
def turnD (t : List Int) (i : Nat) : Int := t.getD i 30002
theorem turnD_lt {t : List Int} {i : Nat} (h : i < t.length) : turnD t i ∈ t.drop i ∧ ∀ x ∈ t.drop (i + 1), t.Pairwise (· < ·) → turnD t i < x := by
  have e : t.drop i = turnD t i :: t.drop (i + 1) := by
    unfold turnD
    rw [List.drop_eq_getElem_cons h]; simp [List.getD, h]
  refine ⟨by rw [e]; simp, fun x hx hp => ?_⟩
  have h2 : (t.drop i).Pairwise (· < ·) := hp.sublist (List.drop_sublist i t)
  rw [e] at h2
  exact (List.pairwise_cons.1 h2).1 x hx
theorem takeD_succ {t : List Int} {i : Nat} (h : i < t.length) : t.take (i + 1) = t.take i ++ [turnD t i] := by
  unfold turnD; rw [List.take_add_one]; simp [List.getD, h]
theorem turnD_end {t : List Int} {i : Nat} (h : t.length ≤ i) : turnD t i = 30002 := by
  unfold turnD; simp [List.getD, h]
/-- One side goes on, or stays, at day d. -/
theorem side_step {t : List Int} (hc : CanD t) {i : Nat} {p d : Int} (hi : i ≤ t.length) (hd : d ≤ 30001) (hpd : p ≤ d) (htt : ∀ x ∈ t.take i, x < p) (htd : ∀ x ∈ t.drop i, p ≤ x) (hle : d ≤ turnD t i) :
    let i' := if turnD t i = d then i + 1 else i
    i' ≤ t.length ∧ (∀ x ∈ t.take i', x < d + 1) ∧ (∀ x ∈ t.drop i', d + 1 ≤ x) ∧ cntD t d = i' ∧ ∀ e, p ≤ e → e < d → cntD t e = i := by
  intro i'
  have hmid : ∀ e, p ≤ e → e < d → cntD t e = i := fun e h1 h2 => cntD_split i hi (fun x hx => by have := htt x hx; omega) fun x hx => by
    by_cases hl : i < t.length
    · have hm : t.drop i = turnD t i :: t.drop (i + 1) := by unfold turnD; rw [List.drop_eq_getElem_cons hl]; simp [List.getD, hl]
      rw [hm] at hx
      rcases List.mem_cons.1 hx with h | h
      · omega
      · have := (turnD_lt hl).2 x h hc.asc; omega
    · rw [List.drop_eq_nil_of_le (by omega)] at hx; simp at hx
  by_cases e : turnD t i = d
  · have hl : i < t.length := by
      by_cases hl : i < t.length
      · exact hl
      · rw [turnD_end (by omega)] at e; omega
    have hi' : i' = i + 1 := if_pos e
    rw [hi']
    have h1 : ∀ x ∈ t.take (i + 1), x < d + 1 := fun x hx => by
      rw [takeD_succ hl, List.mem_append] at hx
      rcases hx with h | h
      · have := htt x h; omega
      · have : x = turnD t i := by simpa using h
        omega
    have h2 : ∀ x ∈ t.drop (i + 1), d + 1 ≤ x := fun x hx => by have := (turnD_lt hl).2 x hx hc.asc; omega
    exact ⟨by omega, h1, h2, cntD_split (i + 1) (by omega) (fun x hx => by have := h1 x hx; omega) (fun x hx => by have := h2 x hx; omega), hmid⟩
  · have hi' : i' = i := if_neg e
    rw [hi']
    have h1 : ∀ x ∈ t.take i, x < d + 1 := fun x hx => by have := htt x hx; omega
    have h2 : ∀ x ∈ t.drop i, d + 1 ≤ x := fun x hx => by
      by_cases hl : i < t.length
      · have hm : t.drop i = turnD t i :: t.drop (i + 1) := by unfold turnD; rw [List.drop_eq_getElem_cons hl]; simp [List.getD, hl]
        rw [hm] at hx
        rcases List.mem_cons.1 hx with h | h
        · omega
        · have := (turnD_lt hl).2 x h hc.asc; omega
      · rw [List.drop_eq_nil_of_le (by omega)] at hx; simp at hx
    exact ⟨hi, h1, h2, cntD_split i hi (fun x hx => by have := h1 x hx; omega) (fun x hx => by have := h2 x hx; omega), hmid⟩
theorem CmbI.step {f : Bool → Bool → Bool} {t u acc : List Int} {i j : Nat} {p : Int} (ht : CanD t) (hu : CanD u) (h : CmbI f t u acc i j p) (hlt : i < t.length ∨ j < u.length) (d : Int) (hd : d = min (turnD t i) (turnD u j)) :
    let i' := if turnD t i = d then i + 1 else i
    let j' := if turnD u j = d then j + 1 else j
    CmbI f t u (if f (oddD i') (oddD j') != oddD acc.length then acc ++ [d] else acc) i' j' (d + 1) ∧ p ≤ d ∧ 0 ≤ d ∧ d ≤ 30001 ∧ i + j < i' + j' ∧ i' ≤ t.length ∧ j' ≤ u.length := by
  intro i' j'
  have hti : ∀ {t : List Int} {i : Nat} (hc : CanD t), i < t.length → turnD t i ∈ t.drop i ∧ 0 ≤ turnD t i ∧ turnD t i ≤ 30001 := fun hc hl => by
    have h1 := (turnD_lt hl).1
    have h2 := List.mem_of_mem_drop h1
    exact ⟨h1, hc.low _ h2, hc.top _ h2⟩
  have hd1 : d ≤ 30001 ∧ p ≤ d ∧ 0 ≤ d ∧ d ≤ turnD t i ∧ d ≤ turnD u j ∧ (turnD t i = d ∨ turnD u j = d) := by
    have a1 : ∀ {t : List Int} {i : Nat}, t.length ≤ i → turnD t i = 30002 := fun h => turnD_end h
    by_cases h1 : i < t.length
    · have b1 := hti ht h1
      have c1 := h.td _ b1.1
      by_cases h2 : j < u.length
      · have b2 := hti hu h2
        have c2 := h.ud _ b2.1
        omega
      · have b2 := a1 (t := u) (i := j) (by omega)
        omega
    · have b1 := a1 (t := t) (i := i) (by omega)
      have h2 : j < u.length := hlt.resolve_left h1
      have b2 := hti hu h2
      have c2 := h.ud _ b2.1
      omega
  obtain ⟨d1, d2, d3, d4, d5, d6⟩ := hd1
  obtain ⟨s1, s2, s3, s4, s5⟩ := side_step ht h.il d1 d2 h.tt h.td d4
  obtain ⟨r1, r2, r3, r4, r5⟩ := side_step hu h.jl d1 d2 h.ut h.ud d5
  have hsum : i + j < i' + j' := by
    show i + j < (if turnD t i = d then i + 1 else i) + (if turnD u j = d then j + 1 else j)
    rcases d6 with e | e
    · rw [if_pos e]; split <;> omega
    · rw [if_pos e]; split <;> omega
  have hold : ∀ e, e < d → inD acc e = f (inD t e) (inD u e) := fun e he => by
    by_cases hp : e < p
    · exact h.val e hp
    · unfold inD
      rw [s5 e (by omega) he, r5 e (by omega) he, cntD_all fun x hx => by have := h.lt x hx; omega]
      exact h.par
  have hdt : inD t d = oddD i' := by unfold inD; rw [s4]
  have hdu : inD u d = oddD j' := by unfold inD; rw [r4]
  refine ⟨?_, d2, d3, d1, hsum, s1, r1⟩
  by_cases hk : (f (oddD i') (oddD j') != oddD acc.length) = true
  · rw [if_pos hk]
    have hpar : oddD (acc ++ [d]).length = f (oddD i') (oddD j') := by
      rw [List.length_append, show ([d] : List Int).length = 1 from rfl, oddD_succ]
      revert hk
      cases f (oddD i') (oddD j') <;> cases oddD acc.length <;> simp
    refine ⟨s1, r1, s2, s3, r2, r3, ?_, ?_, ?_, hpar, ?_, ?_⟩
    · rw [List.pairwise_append]
      exact ⟨h.asc, by simp, fun x hx y hy => by simp at hy; subst hy; have := h.lt x hx; omega⟩
    · intro x hx
      rcases List.mem_append.1 hx with e | e
      · exact h.low x e
      · simp at e; subst e; exact ⟨d3, d1⟩
    · intro x hx
      rcases List.mem_append.1 hx with e | e
      · have := h.lt x e; omega
      · simp at e; omega
    · intro e he
      by_cases h1 : e < d
      · rw [← hold e h1]
        unfold inD
        rw [cntD_append, cntD_none (t := [d]) fun x hx => by simp at hx; omega, Nat.add_zero]
      · obtain rfl : e = d := by omega
        rw [hdt, hdu, ← hpar]
        unfold inD
        rw [cntD_all fun x hx => by
          rcases List.mem_append.1 hx with e2 | e2
          · have := h.lt x e2; omega
          · simp at e2; omega]
    · rw [List.length_append]; have := h.len; simp; omega
  · rw [if_neg hk]
    have hpar : oddD acc.length = f (oddD i') (oddD j') := by
      revert hk
      cases f (oddD i') (oddD j') <;> cases oddD acc.length <;> simp
    refine ⟨s1, r1, s2, s3, r2, r3, h.asc, h.low, fun x hx => by have := h.lt x hx; omega, hpar, ?_, by have := h.len; omega⟩
    intro e he
    by_cases h1 : e < d
    · exact hold e h1
    · obtain rfl : e = d := by omega
      rw [hdt, hdu, ← hpar]
      unfold inD
      rw [cntD_all fun x hx => by have := h.lt x hx; omega]
theorem CmbI.done {f : Bool → Bool → Bool} (hf : f false false = false) {t u acc : List Int} {i j : Nat} {p : Int} (ht : CanD t) (hu : CanD u) (h : CmbI f t u acc i j p) (hi : t.length ≤ i) (hj : u.length ≤ j) : CanD acc ∧ ∀ d, inD acc d = f (inD t d) (inD u d) := by
  have e1 : i = t.length := by have := h.il; omega
  have e2 : j = u.length := by have := h.jl; omega
  have o1 : oddD i = false := by unfold oddD; rw [e1]; have := ht.even; exact decide_eq_false (by omega)
  have o2 : oddD j = false := by unfold oddD; rw [e2]; have := hu.even; exact decide_eq_false (by omega)
  have hp := h.par
  rw [o1, o2, hf] at hp
  have hev : acc.length % 2 = 0 := by unfold oddD at hp; have := of_decide_eq_false hp; omega
  refine ⟨⟨h.asc, fun x hx => (h.low x hx).1, fun x hx => (h.low x hx).2, hev⟩, fun d => ?_⟩
  by_cases hd : d < p
  · exact h.val d hd
  · have a1 : cntD t d = t.length := cntD_all fun x hx => by
      have := h.tt x (by rw [e1, List.take_length]; exact hx); omega
    have a2 : cntD u d = u.length := cntD_all fun x hx => by
      have := h.ut x (by rw [e2, List.take_length]; exact hx); omega
    have a3 : cntD acc d = acc.length := cntD_all fun x hx => by have := h.lt x hx; omega
    unfold inD
    rw [a1, a2, a3, ← e1, ← e2, o1, o2, hf, hp]
/-- The union, and so on, of two sets: the turns are those that there are. -/
theorem combine_ex (f : Bool → Bool → Bool) (hf : f false false = false) {t u : List Int} (ht : CanD t) (hu : CanD u) : ∀ (n : Nat) (acc : List Int) (i j : Nat) (p : Int), CmbI f t u acc i j p → t.length + u.length ≤ i + j + n → ∃ r, CanD r ∧ ∀ d, inD r d = f (inD t d) (inD u d)
  | n, acc, i, j, p, h, hn => by
    by_cases hi : i < t.length ∨ j < u.length
    · cases n with
      | zero => exfalso; have := h.il; have := h.jl; omega
      | succ m =>
        obtain ⟨g, _, _, _, hs, _, _⟩ := CmbI.step ht hu h hi _ rfl
        exact combine_ex f hf ht hu m _ _ _ _ g (by omega)
    · exact ⟨acc, CmbI.done hf ht hu h (by omega) (by omega)⟩
end Go.Proofs.YtjglnpijngdpkaaGreatDoor
