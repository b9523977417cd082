import Derived.Test.YtjglnpijngdpkaaGreatDoorCore
import Derived.Lib.ItoaNum
import Derived.Lib.ItoaMem
import Derived.Lib.AtoiTie
import Derived.Lib.IndexLaws
/-
  Days, in plain words: ascending lists of turns; what is inside.
-/
namespace Go.Proofs.YtjglnpijngdpkaaGreatDoor
open Go.RowKit
set_option linter.unusedSimpArgs false
set_option linter.unusedVariables false

/-- How many turns are at most d. -/
def cntD (t : List Int) (d : Int) : Nat := (t.filter fun x => decide (x ≤ d)).length
/-- Whether a number of turns leads inside. -/
def oddD (n : Nat) : Bool := decide (n % 2 = 1)
def inD (t : List Int) (d : Int) : Bool := oddD (cntD t d)
/-- The turns of a set. -/
structure CanD (t : List Int) : Prop where
  asc : t.Pairwise (· < ·)
  low : ∀ x ∈ t, 0 ≤ x
  top : ∀ x ∈ t, x ≤ 30001
  even : t.length % 2 = 0

theorem cntD_append (a b : List Int) (d : Int) : cntD (a ++ b) d = cntD a d + cntD b d := by unfold cntD; rw [List.filter_append, List.length_append]
theorem cntD_all {t : List Int} {d : Int} (h : ∀ x ∈ t, x ≤ d) : cntD t d = t.length := by
  unfold cntD; rw [List.filter_eq_self.2 fun x hx => decide_eq_true (h x hx)]
theorem cntD_none {t : List Int} {d : Int} (h : ∀ x ∈ t, d < x) : cntD t d = 0 := by
  unfold cntD; rw [List.filter_eq_nil_iff.2 fun x hx => by have := h x hx; simp; omega]; rfl
theorem cntD_split {t : List Int} {d : Int} (i : Nat) (hi : i ≤ t.length) (h : ∀ x ∈ t.take i, x ≤ d) (k : ∀ x ∈ t.drop i, d < x) : cntD t d = i := by
  have e : t = t.take i ++ t.drop i := (List.take_append_drop i t).symm
  rw [e, cntD_append, cntD_all h, cntD_none k, List.length_take]; omega
theorem cntD_le (t : List Int) (d : Int) : cntD t d ≤ t.length := List.length_filter_le _ _
theorem cntD_cons (x : Int) (t : List Int) (d : Int) : cntD (x :: t) d = (if x ≤ d then 1 else 0) + cntD t d := by
  unfold cntD
  rw [List.filter_cons]
  by_cases h : x ≤ d
  · rw [if_pos (decide_eq_true h), if_pos h, List.length_cons]; omega
  · rw [if_neg (by simp [h]), if_neg h]; omega
/-- A day is a turn exactly if it is inside and the day before is not, or the other way round. -/
theorem cntD_step {t : List Int} (h : t.Pairwise (· < ·)) (d : Int) : cntD t d = cntD t (d - 1) + (if d ∈ t then 1 else 0) := by
  induction t with
  | nil => rfl
  | cons x t ih =>
    obtain ⟨h1, h2⟩ := List.pairwise_cons.1 h
    have ih2 := ih h2
    rw [cntD_cons, cntD_cons]
    by_cases e : d = x
    · have hn : d ∉ t := fun hm => by have := h1 d hm; omega
      have e1 : (if x ≤ d then 1 else 0) = 1 := if_pos (by omega)
      have e2 : (if x ≤ d - 1 then 1 else 0) = 0 := if_neg (by omega)
      have e3 : (if d ∈ x :: t then 1 else 0) = 1 := if_pos (by rw [e]; simp)
      rw [if_neg hn] at ih2
      rw [e1, e2, e3]; omega
    · have hm : (d ∈ x :: t) ↔ d ∈ t := by rw [List.mem_cons]; exact ⟨fun h => h.resolve_left e, Or.inr⟩
      have e3 : (if d ∈ x :: t then 1 else 0) = (if d ∈ t then 1 else 0) := by
        by_cases q : d ∈ t
        · rw [if_pos q, if_pos (hm.2 q)]
        · rw [if_neg q, if_neg (fun h => q (hm.1 h))]
      have e4 : (if x ≤ d then 1 else 0) = (if x ≤ d - 1 then 1 else 0) := by
        by_cases q : x ≤ d
        · rw [if_pos q, if_pos (by omega)]
        · rw [if_neg q, if_neg (by omega)]
      rw [e3, e4]; omega
theorem oddD_succ (n : Nat) : oddD (n + 1) = !oddD n := by
  unfold oddD
  by_cases h : n % 2 = 1
  · rw [decide_eq_true h, decide_eq_false (by omega)]; rfl
  · rw [decide_eq_false h, decide_eq_true (by omega)]; rfl
theorem mem_inD {t : List Int} (h : t.Pairwise (· < ·)) (d : Int) : d ∈ t ↔ inD t d ≠ inD t (d - 1) := by
  unfold inD
  rw [cntD_step h]
  by_cases hm : d ∈ t
  · rw [if_pos hm, oddD_succ]
    exact ⟨fun _ => by cases oddD (cntD t (d - 1)) <;> decide, fun _ => hm⟩
  · rw [if_neg hm, Nat.add_zero]
    exact ⟨fun e => absurd e hm, fun e => absurd rfl e⟩
theorem ascI_unique : ∀ {l m : List Int}, l.Pairwise (· < ·) → m.Pairwise (· < ·) → (∀ x, x ∈ l ↔ x ∈ m) → l = m
  | [], [], _, _, _ => rfl
  | [], y :: m, _, _, h => absurd ((h y).2 (by simp)) (by simp)
  | x :: l, [], _, _, h => absurd ((h x).1 (by simp)) (by simp)
  | x :: l, y :: m, hl, hm, h => by
    obtain ⟨l1, l2⟩ := List.pairwise_cons.1 hl
    obtain ⟨m1, m2⟩ := List.pairwise_cons.1 hm
    have e : x = y := by
      rcases List.mem_cons.1 ((h x).1 (by simp)) with e | h1
      · exact e
      · rcases List.mem_cons.1 ((h y).2 (by simp)) with e | h2
        · exact e.symm
        · have a1 := m1 x h1
          have a2 := l1 y h2
          omega
    subst e
    rw [ascI_unique l2 m2 fun z => ?_]
    constructor
    · intro hz
      rcases List.mem_cons.1 ((h z).1 (List.mem_cons_of_mem _ hz)) with e | h1
      · subst e; exact absurd (l1 z hz) (by omega)
      · exact h1
    · intro hz
      rcases List.mem_cons.1 ((h z).2 (List.mem_cons_of_mem _ hz)) with e | h1
      · subst e; exact absurd (m1 z hz) (by omega)
      · exact h1
theorem CanD.out {t : List Int} (h : CanD t) {d : Int} (hd : 30001 ≤ d) : inD t d = false := by
  unfold inD
  rw [cntD_all fun x hx => Int.le_trans (h.top x hx) hd]
  unfold oddD
  have := h.even
  rw [decide_eq_false (by omega)]
theorem CanD.before {t : List Int} (h : CanD t) {d : Int} (hd : d < 0) : inD t d = false := by
  unfold inD
  rw [cntD_none fun x hx => by have := h.low x hx; omega]; rfl
theorem canD_unique {t u : List Int} (h : CanD t) (k : CanD u) (he : ∀ d, 0 ≤ d → d ≤ 30000 → inD t d = inD u d) : t = u := by
  have hall : ∀ d, inD t d = inD u d := fun d => by
    by_cases h1 : d < 0
    · rw [h.before h1, k.before h1]
    · by_cases h2 : d ≤ 30000
      · exact he d (by omega) h2
      · rw [h.out (by omega), k.out (by omega)]
  exact ascI_unique h.asc k.asc fun x => by rw [mem_inD h.asc, mem_inD k.asc, hall, hall]
theorem asc_len : ∀ {t : List Int} {a b : Int}, t.Pairwise (· < ·) → (∀ x ∈ t, a ≤ x ∧ x ≤ b) → (t.length : Int) ≤ max 0 (b - a + 1)
  | [], a, b, _, _ => by simp; omega
  | x :: t, a, b, h, k => by
    obtain ⟨h1, h2⟩ := List.pairwise_cons.1 h
    have := asc_len (a := x + 1) (b := b) h2 fun y hy => by have := h1 y hy; have := (k y (List.mem_cons_of_mem _ hy)).2; omega
    have hx := k x (by simp)
    rw [List.length_cons]; omega
theorem CanD.len {t : List Int} (h : CanD t) : t.length ≤ 30002 := by
  have := asc_len (a := 0) (b := 30001) h.asc fun x hx => ⟨h.low x hx, h.top x hx⟩
  omega
theorem CanD.nil : CanD [] := ⟨List.Pairwise.nil, by simp, by simp, rfl⟩
theorem inD_nil (d : Int) : inD [] d = false := rfl
/-- All days. -/
def allD : List Int := [0, 30001]
theorem allD_can : CanD allD := ⟨by decide, by decide, by decide, rfl⟩
theorem inD_allD {d : Int} (h0 : 0 ≤ d) (h1 : d ≤ 30000) : inD allD d = true := by
  unfold inD allD
  rw [cntD_cons, cntD_cons, if_pos h0, if_neg (by omega)]; rfl

/-- What stands while two sets are combined: all turns before p are done. -/
structure CmbI (f : Bool → Bool → Bool) (t u acc : List Int) (i j : Nat) (p : Int) : Prop where
  il : i ≤ t.length
  jl : j ≤ u.length
  tt : ∀ x ∈ t.take i, x < p
  td : ∀ x ∈ t.drop i, p ≤ x
  ut : ∀ x ∈ u.take j, x < p
  ud : ∀ x ∈ u.drop j, p ≤ x
  asc : acc.Pairwise (· < ·)
  low : ∀ x ∈ acc, 0 ≤ x ∧ x ≤ 30001
  lt : ∀ x ∈ acc, x < p
  par : oddD acc.length = f (oddD i) (oddD j)
  val : ∀ d, d < p → inD acc d = f (inD t d) (inD u d)
  len : acc.length ≤ i + j
theorem CmbI.start {f : Bool → Bool → Bool} (hf : f false false = false) {t u : List Int} (ht : CanD t) (hu : CanD u) : CmbI f t u [] 0 0 0 :=
  ⟨Nat.zero_le _, Nat.zero_le _, by simp, fun x hx => ht.low x (by simpa using hx), by simp, fun x hx => hu.low x (by simpa using hx), List.Pairwise.nil, by simp, by simp, by rw [show oddD 0 = false from rfl, hf]; rfl,
    fun d hd => by rw [ht.before hd, hu.before hd, hf]; rfl, by simp⟩
/-- The next turn of a list, or what lies behind all. -/
def turnD (t : List Int) (i : Nat) : Int := t.getD i 30002
theorem turnD_lt {t : List Int} {i : Nat} (h : i < t.length) : turnD t i ∈ t.drop i ∧ ∀ x ∈ t.drop (i + 1), t.Pairwise (· < ·) → turnD t i < x := by
  have e : t.drop i = turnD t i :: t.drop (i + 1) := by
    unfold turnD
    rw [List.drop_eq_getElem_cons h]; simp [List.getD, h]
  refine ⟨by rw [e]; simp, fun x hx hp => ?_⟩
  have h2 : (t.drop i).Pairwise (· < ·) := hp.sublist (List.drop_sublist i t)
  rw [e] at h2
  exact (List.pairwise_cons.1 h2).1 x hx
theorem takeD_succ {t : List Int} {i : Nat} (h : i < t.length) : t.take (i + 1) = t.take i ++ [turnD t i] := by
  unfold turnD; rw [List.take_add_one]; simp [List.getD, h]
theorem turnD_end {t : List Int} {i : Nat} (h : t.length ≤ i) : turnD t i = 30002 := by
  unfold turnD; simp [List.getD, h]
/-- One side goes on, or stays, at day d. -/
theorem side_step {t : List Int} (hc : CanD t) {i : Nat} {p d : Int} (hi : i ≤ t.length) (hd : d ≤ 30001) (hpd : p ≤ d) (htt : ∀ x ∈ t.take i, x < p) (htd : ∀ x ∈ t.drop i, p ≤ x) (hle : d ≤ turnD t i) :
    let i' := if turnD t i = d then i + 1 else i
    i' ≤ t.length ∧ (∀ x ∈ t.take i', x < d + 1) ∧ (∀ x ∈ t.drop i', d + 1 ≤ x) ∧ cntD t d = i' ∧ ∀ e, p ≤ e → e < d → cntD t e = i := by
  intro i'
  have hmid : ∀ e, p ≤ e → e < d → cntD t e = i := fun e h1 h2 => cntD_split i hi (fun x hx => by have := htt x hx; omega) fun x hx => by
    by_cases hl : i < t.length
    · have hm : t.drop i = turnD t i :: t.drop (i + 1) := by unfold turnD; rw [List.drop_eq_getElem_cons hl]; simp [List.getD, hl]
      rw [hm] at hx
      rcases List.mem_cons.1 hx with h | h
      · omega
      · have := (turnD_lt hl).2 x h hc.asc; omega
    · rw [List.drop_eq_nil_of_le (by omega)] at hx; simp at hx
  by_cases e : turnD t i = d
  · have hl : i < t.length := by
      by_cases hl : i < t.length
      · exact hl
      · rw [turnD_end (by omega)] at e; omega
    have hi' : i' = i + 1 := if_pos e
    rw [hi']
    have h1 : ∀ x ∈ t.take (i + 1), x < d + 1 := fun x hx => by
      rw [takeD_succ hl, List.mem_append] at hx
      rcases hx with h | h
      · have := htt x h; omega
      · have : x = turnD t i := by simpa using h
        omega
    have h2 : ∀ x ∈ t.drop (i + 1), d + 1 ≤ x := fun x hx => by have := (turnD_lt hl).2 x hx hc.asc; omega
    exact ⟨by omega, h1, h2, cntD_split (i + 1) (by omega) (fun x hx => by have := h1 x hx; omega) (fun x hx => by have := h2 x hx; omega), hmid⟩
  · have hi' : i' = i := if_neg e
    rw [hi']
    have h1 : ∀ x ∈ t.take i, x < d + 1 := fun x hx => by have := htt x hx; omega
    have h2 : ∀ x ∈ t.drop i, d + 1 ≤ x := fun x hx => by
      by_cases hl : i < t.length
      · have hm : t.drop i = turnD t i :: t.drop (i + 1) := by unfold turnD; rw [List.drop_eq_getElem_cons hl]; simp [List.getD, hl]
        rw [hm] at hx
        rcases List.mem_cons.1 hx with h | h
        · omega
        · have := (turnD_lt hl).2 x h hc.asc; omega
      · rw [List.drop_eq_nil_of_le (by omega)] at hx; simp at hx
    exact ⟨hi, h1, h2, cntD_split i hi (fun x hx => by have := h1 x hx; omega) (fun x hx => by have := h2 x hx; omega), hmid⟩
theorem CmbI.step {f : Bool → Bool → Bool} {t u acc : List Int} {i j : Nat} {p : Int} (ht : CanD t) (hu : CanD u) (h : CmbI f t u acc i j p) (hlt : i < t.length ∨ j < u.length) (d : Int) (hd : d = min (turnD t i) (turnD u j)) :
    let i' := if turnD t i = d then i + 1 else i
    let j' := if turnD u j = d then j + 1 else j
    CmbI f t u (if f (oddD i') (oddD j') != oddD acc.length then acc ++ [d] else acc) i' j' (d + 1) ∧ p ≤ d ∧ 0 ≤ d ∧ d ≤ 30001 ∧ i + j < i' + j' ∧ i' ≤ t.length ∧ j' ≤ u.length := by
  intro i' j'
  have hti : ∀ {t : List Int} {i : Nat} (hc : CanD t), i < t.length → turnD t i ∈ t.drop i ∧ 0 ≤ turnD t i ∧ turnD t i ≤ 30001 := fun hc hl => by
    have h1 := (turnD_lt hl).1
    have h2 := List.mem_of_mem_drop h1
    exact ⟨h1, hc.low _ h2, hc.top _ h2⟩
  have hd1 : d ≤ 30001 ∧ p ≤ d ∧ 0 ≤ d ∧ d ≤ turnD t i ∧ d ≤ turnD u j ∧ (turnD t i = d ∨ turnD u j = d) := by
    have a1 : ∀ {t : List Int} {i : Nat}, t.length ≤ i → turnD t i = 30002 := fun h => turnD_end h
    by_cases h1 : i < t.length
    · have b1 := hti ht h1
      have c1 := h.td _ b1.1
      by_cases h2 : j < u.length
      · have b2 := hti hu h2
        have c2 := h.ud _ b2.1
        omega
      · have b2 := a1 (t := u) (i := j) (by omega)
        omega
    · have b1 := a1 (t := t) (i := i) (by omega)
      have h2 : j < u.length := hlt.resolve_left h1
      have b2 := hti hu h2
      have c2 := h.ud _ b2.1
      omega
  obtain ⟨d1, d2, d3, d4, d5, d6⟩ := hd1
  obtain ⟨s1, s2, s3, s4, s5⟩ := side_step ht h.il d1 d2 h.tt h.td d4
  obtain ⟨r1, r2, r3, r4, r5⟩ := side_step hu h.jl d1 d2 h.ut h.ud d5
  have hsum : i + j < i' + j' := by
    show i + j < (if turnD t i = d then i + 1 else i) + (if turnD u j = d then j + 1 else j)
    rcases d6 with e | e
    · rw [if_pos e]; split <;> omega
    · rw [if_pos e]; split <;> omega
  have hold : ∀ e, e < d → inD acc e = f (inD t e) (inD u e) := fun e he => by
    by_cases hp : e < p
    · exact h.val e hp
    · unfold inD
      rw [s5 e (by omega) he, r5 e (by omega) he, cntD_all fun x hx => by have := h.lt x hx; omega]
      exact h.par
  have hdt : inD t d = oddD i' := by unfold inD; rw [s4]
  have hdu : inD u d = oddD j' := by unfold inD; rw [r4]
  refine ⟨?_, d2, d3, d1, hsum, s1, r1⟩
  by_cases hk : (f (oddD i') (oddD j') != oddD acc.length) = true
  · rw [if_pos hk]
    have hpar : oddD (acc ++ [d]).length = f (oddD i') (oddD j') := by
      rw [List.length_append, show ([d] : List Int).length = 1 from rfl, oddD_succ]
      revert hk
      cases f (oddD i') (oddD j') <;> cases oddD acc.length <;> simp
    refine ⟨s1, r1, s2, s3, r2, r3, ?_, ?_, ?_, hpar, ?_, ?_⟩
    · rw [List.pairwise_append]
      exact ⟨h.asc, by simp, fun x hx y hy => by simp at hy; subst hy; have := h.lt x hx; omega⟩
    · intro x hx
      rcases List.mem_append.1 hx with e | e
      · exact h.low x e
      · simp at e; subst e; exact ⟨d3, d1⟩
    · intro x hx
      rcases List.mem_append.1 hx with e | e
      · have := h.lt x e; omega
      · simp at e; omega
    · intro e he
      by_cases h1 : e < d
      · rw [← hold e h1]
        unfold inD
        rw [cntD_append, cntD_none (t := [d]) fun x hx => by simp at hx; omega, Nat.add_zero]
      · obtain rfl : e = d := by omega
        rw [hdt, hdu, ← hpar]
        unfold inD
        rw [cntD_all fun x hx => by
          rcases List.mem_append.1 hx with e2 | e2
          · have := h.lt x e2; omega
          · simp at e2; omega]
    · rw [List.length_append]; have := h.len; simp; omega
  · rw [if_neg hk]
    have hpar : oddD acc.length = f (oddD i') (oddD j') := by
      revert hk
      cases f (oddD i') (oddD j') <;> cases oddD acc.length <;> simp
    refine ⟨s1, r1, s2, s3, r2, r3, h.asc, h.low, fun x hx => by have := h.lt x hx; omega, hpar, ?_, by have := h.len; omega⟩
    intro e he
    by_cases h1 : e < d
    · exact hold e h1
    · obtain rfl : e = d := by omega
      rw [hdt, hdu, ← hpar]
      unfold inD
      rw [cntD_all fun x hx => by have := h.lt x hx; omega]
theorem CmbI.done {f : Bool → Bool → Bool} (hf : f false false = false) {t u acc : List Int} {i j : Nat} {p : Int} (ht : CanD t) (hu : CanD u) (h : CmbI f t u acc i j p) (hi : t.length ≤ i) (hj : u.length ≤ j) : CanD acc ∧ ∀ d, inD acc d = f (inD t d) (inD u d) := by
  have e1 : i = t.length := by have := h.il; omega
  have e2 : j = u.length := by have := h.jl; omega
  have o1 : oddD i = false := by unfold oddD; rw [e1]; have := ht.even; exact decide_eq_false (by omega)
  have o2 : oddD j = false := by unfold oddD; rw [e2]; have := hu.even; exact decide_eq_false (by omega)
  have hp := h.par
  rw [o1, o2, hf] at hp
  have hev : acc.length % 2 = 0 := by unfold oddD at hp; have := of_decide_eq_false hp; omega
  refine ⟨⟨h.asc, fun x hx => (h.low x hx).1, fun x hx => (h.low x hx).2, hev⟩, fun d => ?_⟩
  by_cases hd : d < p
  · exact h.val d hd
  · have a1 : cntD t d = t.length := cntD_all fun x hx => by
      have := h.tt x (by rw [e1, List.take_length]; exact hx); omega
    have a2 : cntD u d = u.length := cntD_all fun x hx => by
      have := h.ut x (by rw [e2, List.take_length]; exact hx); omega
    have a3 : cntD acc d = acc.length := cntD_all fun x hx => by have := h.lt x hx; omega
    unfold inD
    rw [a1, a2, a3, ← e1, ← e2, o1, o2, hf, hp]
/-- The union, and so on, of two sets: the turns are those that there are. -/
theorem combine_ex (f : Bool → Bool → Bool) (hf : f false false = false) {t u : List Int} (ht : CanD t) (hu : CanD u) : ∀ (n : Nat) (acc : List Int) (i j : Nat) (p : Int), CmbI f t u acc i j p → t.length + u.length ≤ i + j + n → ∃ r, CanD r ∧ ∀ d, inD r d = f (inD t d) (inD u d)
  | n, acc, i, j, p, h, hn => by
    by_cases hi : i < t.length ∨ j < u.length
    · cases n with
      | zero => exfalso; have := h.il; have := h.jl; omega
      | succ m =>
        obtain ⟨g, _, _, _, hs, _, _⟩ := CmbI.step ht hu h hi _ rfl
        exact combine_ex f hf ht hu m _ _ _ _ g (by omega)
    · exact ⟨acc, CmbI.done hf ht hu h (by omega) (by omega)⟩
end Go.Proofs.YtjglnpijngdpkaaGreatDoor
/-
  Days, in plain words: spans to turns and back.
-/
namespace Go.Proofs.YtjglnpijngdpkaaGreatDoor
open Go.RowKit
set_option linter.unusedSimpArgs false
set_option linter.unusedVariables false

/-- Whether a day is in one of some spans. -/
def spanIn (l : List (Int × Int)) (d : Int) : Bool := l.any fun p => decide (p.1 ≤ d) && decide (d ≤ p.2)
def okSp (p : Int × Int) : Prop := 0 ≤ p.1 ∧ p.1 ≤ p.2 ∧ p.2 ≤ 30000
theorem spanIn_append (l m : List (Int × Int)) (d : Int) : spanIn (l ++ m) d = (spanIn l d || spanIn m d) := by unfold spanIn; rw [List.any_append]
theorem spanIn_perm {l m : List (Int × Int)} (h : ∀ p, p ∈ l ↔ p ∈ m) (d : Int) : spanIn l d = spanIn m d := by
  unfold spanIn
  rw [Bool.eq_iff_iff, List.any_eq_true, List.any_eq_true]
  exact ⟨fun ⟨p, h1, h2⟩ => ⟨p, (h p).1 h1, h2⟩, fun ⟨p, h1, h2⟩ => ⟨p, (h p).2 h1, h2⟩⟩
/-- The turns of the first spans, in the order of their first days. -/
structure OfD (done : List (Int × Int)) (t : List Int) : Prop where
  can : CanD t
  val : ∀ d, inD t d = spanIn done d
  st : ∀ x ∈ t.dropLast, ∃ q ∈ done, x ≤ q.1
theorem OfD.start : OfD [] [] := ⟨CanD.nil, fun d => rfl, by simp⟩
theorem inD_snoc {a : List Int} {y d : Int} (h : ∀ x ∈ a, x ≤ d) : inD (a ++ [y]) d = oddD (a.length + if y ≤ d then 1 else 0) := by
  unfold inD
  rw [cntD_append, cntD_all h, cntD_cons]
  rfl
theorem inD_before {a : List Int} {y d : Int} (h : d < y) : inD (a ++ [y]) d = inD a d := by
  unfold inD
  rw [cntD_append, cntD_none (t := [y]) fun x hx => by simp at hx; omega, Nat.add_zero]
/-- The span begins before the last interval ends, or right behind it. -/
theorem OfD.merge {done : List (Int × Int)} {a : List Int} {y : Int} {p : Int × Int} (h : OfD done (a ++ [y])) (hp : okSp p) (hs : ∀ q ∈ done, q.1 ≤ p.1) (hy : p.1 ≤ y) : OfD (done ++ [p]) (a ++ [max y (p.2 + 1)]) := by
  obtain ⟨p1, p2, p3⟩ := hp
  have hasc := h.can.asc
  rw [List.pairwise_append] at hasc
  obtain ⟨a1, _, a3⟩ := hasc
  have hal : ∀ x ∈ a, x < y := fun x hx => a3 x hx y (by simp)
  have hst : ∀ x ∈ a, x ≤ p.1 := fun x hx => by
    obtain ⟨q, h1, h2⟩ := h.st x (by rw [List.dropLast_concat]; exact hx)
    have := hs q h1; omega
  have hodd : oddD a.length = true := by
    have := h.can.even
    rw [List.length_append] at this
    unfold oddD; exact decide_eq_true (by simp at this; omega)
  have hmy : y ≤ max y (p.2 + 1) := by omega
  refine ⟨⟨?_, ?_, ?_, ?_⟩, fun d => ?_, fun x hx => ?_⟩
  · rw [List.pairwise_append]
    exact ⟨a1, by simp, fun x hx z hz => by simp at hz; subst hz; have := hal x hx; omega⟩
  · intro x hx
    rcases List.mem_append.1 hx with e | e
    · exact h.can.low x (List.mem_append_left _ e)
    · have := h.can.low y (by simp); simp at e; subst e; omega
  · intro x hx
    rcases List.mem_append.1 hx with e | e
    · exact h.can.top x (List.mem_append_left _ e)
    · have := h.can.top y (by simp); simp at e; subst e; omega
  · have := h.can.even; simpa using this
  · rw [spanIn_append, ← h.val]
    have hone : spanIn [p] d = (decide (p.1 ≤ d) && decide (d ≤ p.2)) := by simp [spanIn]
    rw [hone]
    by_cases h1 : d < y
    · rw [inD_before h1, inD_before (show d < max y (p.2 + 1) by omega)]
      by_cases h2 : p.1 ≤ d
      · have : inD a d = true := by
          unfold inD
          rw [cntD_all fun x hx => by have := hst x hx; omega]
          exact hodd
        rw [this]; rfl
      · rw [decide_eq_false h2]; simp
    · have hall : ∀ x ∈ a, x ≤ d := fun x hx => by have := hal x hx; omega
      rw [inD_snoc hall, inD_snoc hall, if_pos (show y ≤ d by omega), oddD_succ, hodd]
      by_cases h2 : d ≤ p.2
      · rw [if_neg (show ¬ max y (p.2 + 1) ≤ d by omega), Nat.add_zero, hodd, decide_eq_true (show p.1 ≤ d by omega), decide_eq_true h2]; rfl
      · rw [if_pos (show max y (p.2 + 1) ≤ d by omega), oddD_succ, hodd, decide_eq_false h2]; simp
  · rw [List.dropLast_concat] at hx
    exact ⟨p, by simp, hst x hx⟩
/-- The span begins behind all that there is. -/
theorem OfD.put {done : List (Int × Int)} {t : List Int} {p : Int × Int} (h : OfD done t) (hp : okSp p) (hy : ∀ x ∈ t, x < p.1) : OfD (done ++ [p]) (t ++ [p.1, p.2 + 1]) := by
  obtain ⟨p1, p2, p3⟩ := hp
  have heven : oddD t.length = false := by have := h.can.even; unfold oddD; exact decide_eq_false (by omega)
  refine ⟨⟨?_, ?_, ?_, ?_⟩, fun d => ?_, fun x hx => ?_⟩
  · rw [List.pairwise_append]
    refine ⟨h.can.asc, by simp; omega, fun x hx z hz => ?_⟩
    have := hy x hx
    simp at hz
    rcases hz with rfl | rfl <;> omega
  · intro x hx
    rcases List.mem_append.1 hx with e | e
    · exact h.can.low x e
    · simp at e; rcases e with rfl | rfl <;> omega
  · intro x hx
    rcases List.mem_append.1 hx with e | e
    · exact h.can.top x e
    · simp at e; rcases e with rfl | rfl <;> omega
  · have := h.can.even; rw [List.length_append]; simp; omega
  · rw [spanIn_append, ← h.val]
    have hone : spanIn [p] d = (decide (p.1 ≤ d) && decide (d ≤ p.2)) := by simp [spanIn]
    rw [hone]
    have hc : cntD (t ++ [p.1, p.2 + 1]) d = cntD t d + ((if p.1 ≤ d then 1 else 0) + (if p.2 + 1 ≤ d then 1 else 0)) := by
      rw [cntD_append, cntD_cons, cntD_cons]; rfl
    unfold inD
    rw [hc]
    by_cases h1 : p.1 ≤ d
    · rw [if_pos h1, cntD_all fun x hx => by have := hy x hx; omega, heven, decide_eq_true h1]
      by_cases h2 : d ≤ p.2
      · rw [if_neg (by omega), decide_eq_true h2]
        show oddD (t.length + 1) = _
        rw [oddD_succ, heven]; rfl
      · rw [if_pos (by omega), decide_eq_false h2]
        show oddD (t.length + 1 + 1) = _
        rw [oddD_succ, oddD_succ, heven]; rfl
    · rw [if_neg h1, if_neg (by omega), decide_eq_false h1]; simp
  · have e : (t ++ [p.1, p.2 + 1]).dropLast = t ++ [p.1] := by
      rw [show t ++ [p.1, p.2 + 1] = (t ++ [p.1]) ++ [p.2 + 1] by simp, List.dropLast_concat]
    rw [e] at hx
    refine ⟨p, by simp, ?_⟩
    rcases List.mem_append.1 hx with e | e
    · have := hy x e; omega
    · simp at e; omega

/-- The spans of a list of turns. -/
def spansD : List Int → List (Int × Int)
  | a :: b :: r => (a, b - 1) :: spansD r
  | _ => []
theorem spansD_len : ∀ t : List Int, (spansD t).length = t.length / 2
  | [] => rfl
  | [_] => by simp [spansD]
  | a :: b :: r => by
    show (spansD r).length + 1 = (r.length + 1 + 1) / 2
    rw [spansD_len r]; omega
theorem spansD_append : ∀ (a b : List Int), a.length % 2 = 0 → spansD (a ++ b) = spansD a ++ spansD b
  | [], b, _ => rfl
  | [x], b, h => by simp at h
  | x :: y :: r, b, h => by
    show (x, y - 1) :: spansD (r ++ b) = (x, y - 1) :: (spansD r ++ spansD b)
    rw [spansD_append r b (by simp at h; omega)]
theorem spansD_at : ∀ (t : List Int) (k : Nat), 2 * k + 1 < t.length → (spansD t)[k]? = some (t.getD (2 * k) 0, t.getD (2 * k + 1) 0 - 1)
  | [], k, h => by simp at h
  | [_], k, h => by simp at h
  | a :: b :: r, 0, _ => rfl
  | a :: b :: r, k + 1, h => by
    show (spansD r)[k]? = _
    rw [spansD_at r k (by simp at h; omega)]
    rw [show 2 * (k + 1) = (2 * k) + 1 + 1 by omega]
    rfl
/-- The turns before a day, closed there. -/
def cutT (t : List Int) (d : Int) : List Int := let a := t.filter fun x => decide (x < d); if oddD a.length then a ++ [d] else a
theorem filter_lt_le (t : List Int) (d : Int) : (t.filter fun x => decide (x < d)) = t.filter fun x => decide (x ≤ d - 1) := by
  congr 1; funext x; rw [Bool.eq_iff_iff, decide_eq_true_iff, decide_eq_true_iff]; omega
theorem odd_lt (t : List Int) (d : Int) : oddD (t.filter fun x => decide (x < d)).length = inD t (d - 1) := by rw [filter_lt_le]; rfl
theorem filter_succ {t : List Int} (h : t.Pairwise (· < ·)) (d : Int) : (t.filter fun x => decide (x < d + 1)) = (t.filter fun x => decide (x < d)) ++ if d ∈ t then [d] else [] := by
  induction t with
  | nil => rfl
  | cons x t ih =>
    obtain ⟨h1, h2⟩ := List.pairwise_cons.1 h
    have ih2 := ih h2
    rw [List.filter_cons, List.filter_cons]
    by_cases e : d = x
    · have hn : d ∉ t := fun hm => by have := h1 d hm; omega
      have hf : (t.filter fun x => decide (x < d)) = [] := List.filter_eq_nil_iff.2 fun y hy => by have := h1 y hy; simp; omega
      rw [if_neg hn, hf] at ih2
      have e1 : decide (x < d + 1) = true := decide_eq_true (by omega)
      have e2 : decide (x < d) = false := decide_eq_false (by omega)
      have e3 : (if d ∈ x :: t then [d] else []) = [d] := if_pos (by rw [e]; simp)
      rw [e1, e2, e3, ih2, hf, if_pos rfl, if_neg (by decide), e]; rfl
    · have hm : (d ∈ x :: t) ↔ d ∈ t := by rw [List.mem_cons]; exact ⟨fun h => h.resolve_left e, Or.inr⟩
      have e3 : (if d ∈ x :: t then [d] else []) = (if d ∈ t then [d] else []) := by
        by_cases q : d ∈ t
        · rw [if_pos q, if_pos (hm.2 q)]
        · rw [if_neg q, if_neg (fun h => q (hm.1 h))]
      rw [e3, ih2]
      by_cases hx : x < d
      · have e1 : decide (x < d + 1) = true := decide_eq_true (by omega)
        have e2 : decide (x < d) = true := decide_eq_true hx
        rw [e1, e2, if_pos rfl, if_pos rfl]; rfl
      · have e1 : decide (x < d + 1) = false := decide_eq_false (by omega)
        have e2 : decide (x < d) = false := decide_eq_false hx
        rw [e1, e2]; rfl
theorem cutT_start {t : List Int} (h : CanD t) : cutT t 0 = [] := by
  unfold cutT
  rw [List.filter_eq_nil_iff.2 fun x hx => by have := h.low x hx; simp; omega]; rfl
theorem cutT_end {t : List Int} (h : CanD t) : cutT t 30001 = t := by
  have h2 := filter_succ h.asc 30001
  rw [show (t.filter fun x => decide (x < 30001 + 1)) = t from List.filter_eq_self.2 fun x hx => by have := h.top x hx; simp; omega] at h2
  unfold cutT
  generalize (t.filter fun x => decide (x < 30001)) = a at h2 ⊢
  have he := h.even
  by_cases hm : (30001 : Int) ∈ t
  · rw [if_pos hm] at h2
    rw [h2, List.length_append] at he
    show (if oddD a.length then a ++ [30001] else a) = t
    rw [if_pos (by unfold oddD; exact decide_eq_true (by simp at he; omega))]; exact h2.symm
  · rw [if_neg hm, List.append_nil] at h2
    show (if oddD a.length then a ++ [30001] else a) = t
    rw [if_neg (by unfold oddD; rw [← h2]; simp; omega)]; exact h2.symm
/-- A day that is not inside changes nothing. -/
theorem cutT_no {t : List Int} (h : CanD t) {d : Int} (hd : inD t d = false) : cutT t (d + 1) = cutT t d := by
  unfold cutT
  simp only []
  rw [filter_succ h.asc]
  have ho := odd_lt t d
  have hm := mem_inD h.asc d
  rw [hd] at hm
  generalize (t.filter fun x => decide (x < d)) = a at ho ⊢
  by_cases hp : inD t (d - 1) = true
  · rw [if_pos (hm.2 (by rw [hp]; decide))]
    rw [hp] at ho
    rw [if_pos ho, List.length_append, show ([d] : List Int).length = 1 from rfl, oddD_succ, ho]; rfl
  · have hp2 : inD t (d - 1) = false := by simpa using hp
    rw [if_neg (fun e => hm.1 e hp2.symm), List.append_nil]
    rw [hp2] at ho
    rw [if_neg (by rw [ho]; decide), if_neg (by rw [ho]; decide)]
/-- A day inside behind one inside: the last span grows. -/
theorem cutT_more {t : List Int} (h : CanD t) {d : Int} (hd : inD t d = true) (hp : inD t (d - 1) = true) : ∃ a s, a.length % 2 = 0 ∧ cutT t d = a ++ [s, d] ∧ cutT t (d + 1) = a ++ [s, d + 1] := by
  unfold cutT
  simp only []
  rw [filter_succ h.asc]
  have ho := odd_lt t d
  have hm := mem_inD h.asc d
  rw [if_neg (fun e => hm.1 e (by rw [hd, hp])), List.append_nil]
  generalize (t.filter fun x => decide (x < d)) = a at ho ⊢
  rw [hp] at ho
  rw [if_pos ho, if_pos ho]
  have hne : a ≠ [] := fun e => by rw [e] at ho; cases ho
  obtain ⟨a', s, rfl⟩ : ∃ a' s, a = a' ++ [s] := ⟨a.dropLast, a.getLast hne, (List.dropLast_concat_getLast hne).symm⟩
  refine ⟨a', s, ?_, by simp, by simp⟩
  unfold oddD at ho
  have := of_decide_eq_true ho
  rw [List.length_append] at this
  simp at this; omega
/-- A day inside behind one outside: a new span. -/
theorem cutT_new {t : List Int} (h : CanD t) {d : Int} (hd : inD t d = true) (hp : inD t (d - 1) = false) : (cutT t d).length % 2 = 0 ∧ cutT t (d + 1) = cutT t d ++ [d, d + 1] := by
  unfold cutT
  simp only []
  rw [filter_succ h.asc]
  have ho := odd_lt t d
  have hm := mem_inD h.asc d
  rw [if_pos (hm.2 (by rw [hd, hp]; decide))]
  generalize (t.filter fun x => decide (x < d)) = a at ho ⊢
  rw [hp] at ho
  rw [if_neg (by rw [ho]; decide), List.length_append, show ([d] : List Int).length = 1 from rfl, oddD_succ, ho]
  refine ⟨?_, by simp⟩
  unfold oddD at ho
  have := of_decide_eq_false ho
  omega
end Go.Proofs.YtjglnpijngdpkaaGreatDoor
/-
  Plain words on the texts of sets of days. No program is named here.
-/
namespace Go.Proofs.YtjglnpijngdpkaaGreatDoor
set_option linter.unusedSimpArgs false
set_option linter.unusedVariables false

/-- The text of a span. -/
def spanT (p : Int × Int) : List UInt8 := Lib.itoa p.1 ++ (if p.1 = p.2 then [] else 45 :: (if p.2 = 30000 then [] else Lib.itoa p.2))
/-- The texts of spans, a comma between two. -/
def txD (l : List (Int × Int)) : List UInt8 := l.foldl (fun p q => (if p = [] then [] else p ++ [44]) ++ spanT q) []
def noneB : List UInt8 := [110, 111, 110, 101]
def allB : List UInt8 := [97, 108, 108]
/-- The text of a set of days. -/
def textD (t : List Int) : List UInt8 := if t = [] then noneB else if t = [0, 30001] then allB else txD (spansD t)
theorem itoa_ne (n : Int) (h : 0 ≤ n) : Lib.itoa n ≠ [] := by
  obtain ⟨m, rfl⟩ : ∃ m : Nat, n = (m : Int) := ⟨n.toNat, by omega⟩
  rw [Lib.itoa_nonneg]
  intro e
  have : 1 ≤ (Lib.decDigits m).length := by rw [Lib.decDigits]; split <;> simp
  rw [e] at this; simp at this
theorem itoa_len5 (n : Int) (h : 0 ≤ n) (h2 : n ≤ 30001) : (Lib.itoa n).length ≤ 5 := by
  obtain ⟨m, rfl⟩ : ∃ m : Nat, n = (m : Int) := ⟨n.toNat, by omega⟩
  rw [Lib.itoa_nonneg]
  have hd : ∀ k : Nat, k < 10 → (Lib.decDigits k).length = 1 := fun k hk => by rw [Lib.decDigits_one hk]; rfl
  have hs : ∀ k j : Nat, ¬ k < 10 → (Lib.decDigits (k / 10)).length ≤ j → (Lib.decDigits k).length ≤ j + 1 := fun k j hk hj => by rw [Lib.decDigits, dif_neg hk, List.length_append]; simp; omega
  have h1 : ∀ k : Nat, k < 10 → (Lib.decDigits k).length ≤ 1 := fun k hk => by rw [hd k hk]; exact Nat.le_refl _
  have h2 : ∀ k : Nat, k < 100 → (Lib.decDigits k).length ≤ 2 := fun k hk => by
    by_cases e : k < 10
    · have := h1 k e; omega
    · exact hs k 1 e (h1 _ (by omega))
  have h3 : ∀ k : Nat, k < 1000 → (Lib.decDigits k).length ≤ 3 := fun k hk => by
    by_cases e : k < 10
    · have := h1 k e; omega
    · exact hs k 2 e (h2 _ (by omega))
  have h4 : ∀ k : Nat, k < 10000 → (Lib.decDigits k).length ≤ 4 := fun k hk => by
    by_cases e : k < 10
    · have := h1 k e; omega
    · exact hs k 3 e (h3 _ (by omega))
  by_cases e : m < 10
  · have := h1 m e; omega
  · exact hs m 4 e (h4 _ (by omega))
theorem spanT_ne (p : Int × Int) (h : 0 ≤ p.1) : spanT p ≠ [] := by
  unfold spanT
  intro e
  exact itoa_ne p.1 h (List.append_eq_nil_iff.1 e).1
theorem spanT_len (p : Int × Int) (h : okSp p) : (spanT p).length ≤ 11 := by
  obtain ⟨h0, h1, h2⟩ := h
  unfold spanT
  have a := itoa_len5 p.1 h0 (by omega)
  have b := itoa_len5 p.2 (by omega) (by omega)
  rw [List.length_append]
  split
  · simp; omega
  · rw [List.length_cons]
    split
    · simp; omega
    · omega
theorem txD_nil : txD [] = [] := rfl
theorem txD_snoc (l : List (Int × Int)) (q : Int × Int) : txD (l ++ [q]) = (if txD l = [] then [] else txD l ++ [44]) ++ spanT q := by
  unfold txD
  rw [List.foldl_append]
  rfl
theorem txD_ne (l : List (Int × Int)) (h : ∀ p ∈ l, 0 ≤ p.1) (hl : l ≠ []) : txD l ≠ [] := by
  rcases List.eq_nil_or_concat l with rfl | ⟨m, q, rfl⟩
  · exact absurd rfl hl
  · rw [List.concat_eq_append, txD_snoc]
    intro e
    exact spanT_ne q (h q (by simp)) (List.append_eq_nil_iff.1 e).2
theorem txD_next (l : List (Int × Int)) (q : Int × Int) (h : ∀ p ∈ l, 0 ≤ p.1) : txD (l ++ [q]) = (if l.length = 0 then [] else txD l ++ [44]) ++ spanT q := by
  rw [txD_snoc]
  by_cases e : l = []
  · subst e; rfl
  · rw [if_neg (txD_ne l h e), if_neg (by rw [List.length_eq_zero_iff]; exact e)]
theorem txD_len : ∀ (l : List (Int × Int)), (∀ p ∈ l, okSp p) → (txD l).length ≤ 12 * l.length := by
  intro l
  generalize hn : l.length = n
  induction n generalizing l with
  | zero => intro _; rw [List.length_eq_zero_iff.1 hn]; simp [txD]
  | succ n ih =>
    intro h
    rcases List.eq_nil_or_concat l with rfl | ⟨m, q, rfl⟩
    · simp at hn
    · rw [List.concat_eq_append] at hn h ⊢
      have hm : m.length = n := by simpa using hn
      have h1 := ih m hm fun p hp => h p (by simp [hp])
      have h2 := spanT_len q (h q (by simp))
      rw [txD_snoc, List.length_append]
      split
      · simp; omega
      · rw [List.length_append]; simp; omega
theorem spansD_ok : ∀ {t : List Int}, CanD t → ∀ p ∈ spansD t, okSp p
  | [], _ => by intro p hp; cases hp
  | [x], h => by have := h.even; simp at this
  | x :: y :: t, h => by
    obtain ⟨h1, h2⟩ := List.pairwise_cons.1 h.asc
    obtain ⟨h3, h4⟩ := List.pairwise_cons.1 h2
    intro p hp
    have hc : CanD t := ⟨h4, fun z hz => h.low z (by simp [hz]), fun z hz => h.top z (by simp [hz]), by have := h.even; simp at this; omega⟩
    have e : spansD (x :: y :: t) = (x, y - 1) :: spansD t := rfl
    rw [e] at hp
    rcases List.mem_cons.1 hp with rfl | hp
    · have a1 := h1 y (by simp)
      have a2 := h.low x (by simp)
      have a3 := h.top y (by simp)
      unfold okSp
      simp only []
      omega
    · exact spansD_ok hc p hp
end Go.Proofs.YtjglnpijngdpkaaGreatDoor
/-
  Plain words on reading the texts of sets of days. No program is named here.
-/
namespace Go.Proofs.YtjglnpijngdpkaaGreatDoor
set_option linter.unusedSimpArgs false
set_option linter.unusedVariables false

theorem digit_valD : ∀ n : Fin 10, Lib.digitVal (UInt8.ofNat (48 + n.val)) = some n.val := by decide
theorem decFrom_decD : ∀ (d n : Nat), n ≤ d → Lib.decFrom 0 (Lib.decDigits n) = some n := by
  intro d
  induction d with
  | zero =>
    intro n h
    obtain rfl : n = 0 := by omega
    rw [Lib.decDigits_one (by omega)]
    exact Lib.decFrom_take [UInt8.ofNat 48] 0 0 0 _ 0 rfl rfl (digit_valD ⟨0, by omega⟩)
  | succ d ih =>
    intro n h
    by_cases h10 : n < 10
    · rw [Lib.decDigits_one h10]
      have := Lib.decFrom_take [UInt8.ofNat (48 + n)] 0 0 0 _ n rfl rfl (digit_valD ⟨n, h10⟩)
      simpa using this
    · have h1 := ih (n / 10) (by omega)
      rw [Lib.decDigits, dif_neg h10]
      have := Lib.decFrom_take (Lib.decDigits (n / 10) ++ [UInt8.ofNat (48 + n % 10)]) (Lib.decDigits (n / 10)).length 0 (n / 10) (UInt8.ofNat (48 + n % 10)) (n % 10) (by rw [List.take_left]; exact h1) (by simp) (digit_valD ⟨n % 10, by omega⟩)
      rw [List.take_of_length_le (by simp)] at this
      rw [this]
      congr 1; omega
theorem dec_memD : ∀ (d n : Nat), n ≤ d → ∀ b ∈ Lib.decDigits n, ∃ k, k < 10 ∧ b = UInt8.ofNat (48 + k) := by
  intro d
  induction d with
  | zero =>
    intro n h b hb
    obtain rfl : n = 0 := by omega
    rw [Lib.decDigits_one (by omega)] at hb
    exact ⟨0, by omega, by simpa using hb⟩
  | succ d ih =>
    intro n h b hb
    by_cases h10 : n < 10
    · rw [Lib.decDigits_one h10] at hb
      exact ⟨n, h10, by simpa using hb⟩
    · rw [Lib.decDigits, dif_neg h10] at hb
      rcases List.mem_append.1 hb with hb | hb
      · exact ih (n / 10) (by omega) b hb
      · exact ⟨n % 10, by omega, by simpa using hb⟩
theorem dec_byteD (n : Nat) : ∀ b ∈ Lib.decDigits n, 48 ≤ b.toNat ∧ b.toNat ≤ 57 ∧ b ≠ 44 ∧ b ≠ 45 ∧ b ≠ 43 := by
  intro b hb
  obtain ⟨k, hk, rfl⟩ := dec_memD n n (Nat.le_refl _) b hb
  have : ∀ k : Fin 10, 48 ≤ (UInt8.ofNat (48 + k.val)).toNat ∧ (UInt8.ofNat (48 + k.val)).toNat ≤ 57 ∧ UInt8.ofNat (48 + k.val) ≠ 44 ∧ UInt8.ofNat (48 + k.val) ≠ 45 ∧ UInt8.ofNat (48 + k.val) ≠ 43 := by decide
  exact this ⟨k, hk⟩
theorem dec_neD (n : Nat) : Lib.decDigits n ≠ [] := by
  intro e
  have : 1 ≤ (Lib.decDigits n).length := by rw [Lib.decDigits]; split <;> simp
  rw [e] at this; simp at this
theorem itoa_byteD {n : Int} (h : 0 ≤ n) : ∀ b ∈ Lib.itoa n, 48 ≤ b.toNat ∧ b.toNat ≤ 57 ∧ b ≠ 44 ∧ b ≠ 45 ∧ b ≠ 43 := by
  obtain ⟨m, rfl⟩ : ∃ m : Nat, n = (m : Int) := ⟨n.toNat, by omega⟩
  rw [Lib.itoa_nonneg]
  exact dec_byteD m
theorem atoi_itoaD {n : Int} (h : 0 ≤ n) (h2 : n ≤ 30001) : Lib.atoiAll (Lib.itoa n) = .ok n := by
  have hl := itoa_len5 n h h2
  obtain ⟨m, rfl⟩ : ∃ m : Nat, n = (m : Int) := ⟨n.toNat, by omega⟩
  rw [Lib.itoa_nonneg] at hl ⊢
  rw [Lib.atoiAll_short _ (by omega)]
  have hd := decFrom_decD m m (Nat.le_refl _)
  have hb := dec_byteD m
  cases hc : Lib.decDigits m with
  | nil => exact absurd hc (dec_neD m)
  | cons b r =>
    rw [hc] at hd hb
    obtain ⟨_, _, _, e1, e2⟩ := hb b List.mem_cons_self
    have : Lib.atoi (b :: r) = some (m : Int) := by
      simp [Lib.atoi, e1, e2, Lib.decNat, hd]
    rw [this]
    rfl
theorem itoa_injD {a b : Int} (ha : 0 ≤ a) (ha2 : a ≤ 30001) (hb : 0 ≤ b) (hb2 : b ≤ 30001) (h : Lib.itoa a = Lib.itoa b) : a = b := by
  have h1 := atoi_itoaD ha ha2
  rw [h, atoi_itoaD hb hb2] at h1
  injection h1 with h1
  exact h1.symm

/-- The parts of a text between one byte and the next one of its kind. -/
def splitC (c : UInt8) : List UInt8 → List (List UInt8)
  | [] => [[]]
  | x :: l => if x = c then [] :: splitC c l else match splitC c l with
    | [] => [[x]]
    | w :: r => (x :: w) :: r
theorem splitC_ne (c : UInt8) : ∀ l, splitC c l ≠ []
  | [] => by simp [splitC]
  | x :: l => by
    unfold splitC
    split
    · simp
    · split <;> simp
theorem splitC_none {c : UInt8} : ∀ {l : List UInt8}, c ∉ l → splitC c l = [l]
  | [], _ => rfl
  | x :: l, h => by
    have hx : x ≠ c := fun e => h (by simp [e])
    have hl := splitC_none (l := l) (fun e => h (List.mem_cons_of_mem _ e))
    unfold splitC
    rw [if_neg hx, hl]
theorem splitC_append (c : UInt8) (b : List UInt8) : ∀ a : List UInt8, splitC c (a ++ c :: b) = splitC c a ++ splitC c b
  | [] => by simp [splitC]
  | x :: a => by
    have ih := splitC_append c b a
    rw [List.cons_append]
    by_cases hx : x = c
    · subst hx
      simp only [splitC, if_true, ih, List.cons_append]
    · cases hs : splitC c a with
      | nil => exact absurd hs (splitC_ne c a)
      | cons w r =>
        rw [hs] at ih
        simp only [splitC, if_neg hx, ih, hs, List.cons_append]

/-- What the first byte of a kind cuts. -/
theorem index_of {c : UInt8} {a b : List UInt8} (h : c ∉ a) : Lib.indexByte (a ++ c :: b) c = a.length := by
  have hg := Lib.indexByte_ge (a ++ c :: b) c
  by_cases h1 : Lib.indexByte (a ++ c :: b) c = -1
  · exact absurd (by simp) (Lib.indexByte_none h1 a.length)
  · obtain ⟨o, ho⟩ : ∃ o : Nat, Lib.indexByte (a ++ c :: b) c = (o : Int) := ⟨(Lib.indexByte (a ++ c :: b) c).toNat, by omega⟩
    obtain ⟨h2, h3⟩ := Lib.indexByte_some ho
    rw [ho]
    have h4 : ¬ a.length < o := fun hlt => h3 a.length hlt (by simp)
    have h5 : ¬ o < a.length := fun hlt => by
      rw [List.getElem?_append_left hlt] at h2
      exact h (List.mem_of_getElem? h2)
    omega
theorem index_no {c : UInt8} {l : List UInt8} (h : c ∉ l) : Lib.indexByte l c = -1 := by
  have hg := Lib.indexByte_ge l c
  by_cases h1 : Lib.indexByte l c = -1
  · exact h1
  · obtain ⟨o, ho⟩ : ∃ o : Nat, Lib.indexByte l c = (o : Int) := ⟨(Lib.indexByte l c).toNat, by omega⟩
    exact absurd (List.mem_of_getElem? (Lib.indexByte_some ho).1) h
theorem index_cut {c : UInt8} {l : List UInt8} {o : Nat} (h : Lib.indexByte l c = (o : Int)) : o < l.length ∧ c ∉ l.take o ∧ l = l.take o ++ c :: l.drop (o + 1) := by
  obtain ⟨h2, h3⟩ := Lib.indexByte_some h
  obtain ⟨hlt, he⟩ := List.getElem?_eq_some_iff.1 h2
  refine ⟨hlt, fun hm => ?_, ?_⟩
  · obtain ⟨k, hk⟩ := List.getElem?_of_mem hm
    have hk2 : k < o := by
      have := (List.getElem?_eq_some_iff.1 hk).1
      rw [List.length_take] at this; omega
    rw [List.getElem?_take_of_lt hk2] at hk
    exact h3 k hk2 hk
  · rw [← he, ← List.drop_eq_getElem_cons hlt, List.take_append_drop]
theorem splitC_cut {c : UInt8} {l : List UInt8} {o : Nat} (h : Lib.indexByte l c = (o : Int)) : splitC c l = l.take o :: splitC c (l.drop (o + 1)) := by
  obtain ⟨h1, h2, h3⟩ := index_cut h
  have h4 := splitC_append c (l.drop (o + 1)) (l.take o)
  rw [← h3, splitC_none h2] at h4
  exact h4

/-- The parts of the texts of spans. -/
theorem spanT_byte {p : Int × Int} (h : okSp p) : (44 : UInt8) ∉ spanT p := by
  obtain ⟨h0, h1, h2⟩ := h
  unfold spanT
  intro hm
  rcases List.mem_append.1 hm with e | e
  · exact (itoa_byteD h0 _ e).2.2.1 rfl
  · split at e
    · cases e
    · rcases List.mem_cons.1 e with e | e
      · exact absurd e (by decide)
      · split at e
        · cases e
        · exact (itoa_byteD (by omega) _ e).2.2.1 rfl
theorem split_txD : ∀ (l : List (Int × Int)), l ≠ [] → (∀ p ∈ l, okSp p) → splitC 44 (txD l) = l.map spanT := by
  intro l
  generalize hn : l.length = n
  induction n generalizing l with
  | zero => intro h _; exact absurd (List.length_eq_zero_iff.1 hn) h
  | succ n ih =>
    intro _ hok
    rcases List.eq_nil_or_concat l with rfl | ⟨m, q, rfl⟩
    · simp at hn
    · rw [List.concat_eq_append] at hn hok ⊢
      have hm : m.length = n := by simpa using hn
      have hq := splitC_none (spanT_byte (hok q (by simp)))
      rw [txD_snoc]
      by_cases e : m = []
      · subst e
        rw [if_pos txD_nil, List.nil_append, hq]
        rfl
      · rw [if_neg (txD_ne m (fun p hp => (hok p (by simp [hp])).1) e), List.append_assoc, List.singleton_append, splitC_append, hq, ih m hm e (fun p hp => hok p (by simp [hp])), List.map_append]
        rfl

/-- The span that a text says, as the program reads it. -/
def spanV (x : List UInt8) : Option (Int × Int) :=
  if Lib.indexByte x 45 = -1 then (match Lib.atoiAll x with | .ok a => some (a, a) | _ => none)
  else match Lib.atoiAll (x.take (Lib.indexByte x 45).toNat) with
    | .ok a => if x.drop ((Lib.indexByte x 45).toNat + 1) = [] then some (a, 30000) else (match Lib.atoiAll (x.drop ((Lib.indexByte x 45).toNat + 1)) with | .ok b => some (a, b) | _ => none)
    | _ => none
theorem spanV_text {p : Int × Int} (h : okSp p) : spanV (spanT p) = some p := by
  obtain ⟨a, b⟩ := p
  obtain ⟨h0, h1, h2⟩ := h
  simp only at h0 h1 h2
  have hna : (45 : UInt8) ∉ Lib.itoa a := fun hm => (itoa_byteD h0 _ hm).2.2.2.1 rfl
  have ea := atoi_itoaD h0 (by omega)
  unfold spanT
  simp only
  by_cases e : a = b
  · subst e
    rw [if_pos rfl, List.append_nil]
    unfold spanV
    rw [if_pos (index_no hna), ea]
  · rw [if_neg e]
    have hi := index_of (b := if b = 30000 then [] else Lib.itoa b) hna
    unfold spanV
    rw [if_neg (by rw [hi]; omega), hi]
    have ht : ((Lib.itoa a).length : Int).toNat = (Lib.itoa a).length := by omega
    rw [ht, List.take_left, ea]
    have hd : List.drop ((Lib.itoa a).length + 1) (Lib.itoa a ++ 45 :: (if b = 30000 then [] else Lib.itoa b)) = (if b = 30000 then [] else Lib.itoa b) := by
      rw [← List.drop_drop, List.drop_left]; rfl
    rw [hd]
    by_cases e2 : b = 30000
    · subst e2
      simp
    · have hn := itoa_ne b (by omega)
      simp [e2, hn, atoi_itoaD (show 0 ≤ b by omega) (by omega)]

theorem spanIn_spansD : ∀ {t : List Int}, CanD t → ∀ d, spanIn (spansD t) d = inD t d
  | [], _, _ => rfl
  | [x], h, _ => by have := h.even; simp at this
  | x :: y :: t, h, d => by
    obtain ⟨h1, h2⟩ := List.pairwise_cons.1 h.asc
    obtain ⟨h3, h4⟩ := List.pairwise_cons.1 h2
    have hc : CanD t := ⟨h4, fun z hz => h.low z (by simp [hz]), fun z hz => h.top z (by simp [hz]), by have := h.even; simp at this; omega⟩
    have ih := spanIn_spansD hc d
    have hxy := h1 y (by simp)
    have e : spanIn (spansD (x :: y :: t)) d = (decide (x ≤ d) && decide (d ≤ y - 1) || spanIn (spansD t) d) := rfl
    rw [e, ih]
    unfold inD
    rw [cntD_cons, cntD_cons]
    by_cases c1 : d < y
    · have c0 : cntD t d = 0 := cntD_none fun z hz => by have := h3 z hz; omega
      rw [c0, if_neg (by omega : ¬ y ≤ d)]
      by_cases c2 : x ≤ d
      · rw [if_pos c2, decide_eq_true c2, decide_eq_true (by omega : d ≤ y - 1)]; rfl
      · rw [if_neg c2, decide_eq_false c2]; rfl
    · rw [if_pos (by omega : x ≤ d), if_pos (by omega : y ≤ d), decide_eq_false (by omega : ¬ d ≤ y - 1)]
      have e2 : oddD (1 + (1 + cntD t d)) = oddD (cntD t d) := by unfold oddD; congr 1; apply propext; omega
      rw [e2]; simp
theorem spansD_nil {t : List Int} (h : CanD t) (he : spansD t = []) : t = [] := by
  have h1 := spansD_len t
  rw [he] at h1
  have := h.even
  cases t with
  | nil => rfl
  | cons x r => cases r with
    | nil => simp at this
    | cons y r => simp at h1; omega

/-- How the text of a set begins. -/
theorem textD_head {t : List Int} (h : CanD t) (h1 : t ≠ []) (h2 : t ≠ [0, 30001]) : textD t = txD (spansD t) := by
  unfold textD; rw [if_neg h1, if_neg h2]
theorem txD_front : ∀ (l : List (Int × Int)), l ≠ [] → (∀ p ∈ l, okSp p) → ∃ b r, txD l = b :: r ∧ 48 ≤ b.toNat ∧ b.toNat ≤ 57 := by
  intro l
  generalize hn : l.length = n
  induction n generalizing l with
  | zero => intro h _; exact absurd (List.length_eq_zero_iff.1 hn) h
  | succ n ih =>
    intro _ hok
    rcases List.eq_nil_or_concat l with rfl | ⟨m, q, rfl⟩
    · simp at hn
    · rw [List.concat_eq_append] at hn hok ⊢
      have hm : m.length = n := by simpa using hn
      rw [txD_snoc]
      by_cases e : m = []
      · subst e
        rw [if_pos txD_nil, List.nil_append]
        have hq := (hok q (by simp)).1
        have hb := itoa_byteD hq
        have hne := itoa_ne q.1 hq
        unfold spanT
        cases hc : Lib.itoa q.1 with
        | nil => exact absurd hc hne
        | cons b r =>
          rw [hc] at hb
          obtain ⟨b1, b2, _⟩ := hb b (by simp)
          exact ⟨b, _, rfl, b1, b2⟩
      · obtain ⟨b, r, hb, b1, b2⟩ := ih m hm e (fun p hp => hok p (by simp [hp]))
        rw [if_neg (by rw [hb]; simp), hb]
        exact ⟨b, _, rfl, b1, b2⟩
theorem textD_none {t : List Int} (h : CanD t) (e : textD t = noneB) : t = [] := by
  by_cases h1 : t = []
  · exact h1
  · by_cases h2 : t = [0, 30001]
    · subst h2; exact absurd e (by decide)
    · rw [textD_head h h1 h2] at e
      obtain ⟨b, r, hb, b1, b2⟩ := txD_front (spansD t) (fun e => h1 (spansD_nil h e)) (spansD_ok h)
      rw [hb] at e
      injection e with e _
      subst e
      exact absurd b2 (by decide)
theorem textD_all {t : List Int} (h : CanD t) (e : textD t = allB) : t = [0, 30001] := by
  by_cases h1 : t = []
  · subst h1; exact absurd e (by decide)
  · by_cases h2 : t = [0, 30001]
    · exact h2
    · rw [textD_head h h1 h2] at e
      obtain ⟨b, r, hb, b1, b2⟩ := txD_front (spansD t) (fun e => h1 (spansD_nil h e)) (spansD_ok h)
      rw [hb] at e
      injection e with e _
      subst e
      exact absurd b2 (by decide)
/-- What the parts of a text say, if it is that of a set. -/
theorem textD_parts {t : List Int} {l : List UInt8} (h : CanD t) (e : textD t = l) (h1 : l ≠ noneB) (h2 : l ≠ allB) : splitC 44 l = (spansD t).map spanT ∧ spansD t ≠ [] ∧ txD (spansD t) = l := by
  have t1 : t ≠ [] := fun e2 => h1 (by rw [← e, e2]; rfl)
  have t2 : t ≠ [0, 30001] := fun e2 => h2 (by rw [← e, e2]; rfl)
  have t3 : spansD t ≠ [] := fun e => t1 (spansD_nil h e)
  rw [textD_head h t1 t2] at e
  rw [← e]
  exact ⟨split_txD _ t3 (spansD_ok h), t3, rfl⟩
theorem spanT_inj {p q : Int × Int} (hp : okSp p) (hq : okSp q) (h : spanT p = spanT q) : p = q := by
  have h1 := spanV_text hp
  rw [h, spanV_text hq] at h1
  injection h1 with h1
  exact h1.symm
theorem map_spanT_inj : ∀ {l m : List (Int × Int)}, (∀ p ∈ l, okSp p) → (∀ p ∈ m, okSp p) → l.map spanT = m.map spanT → l = m
  | [], [], _, _, _ => rfl
  | [], _ :: _, _, _, h => by simp at h
  | _ :: _, [], _, _, h => by simp at h
  | p :: l, q :: m, hl, hm, h => by
    rw [List.map_cons, List.map_cons] at h
    injection h with h1 h2
    rw [spanT_inj (hl p (by simp)) (hm q (by simp)) h1, map_spanT_inj (fun p hp => hl p (by simp [hp])) (fun p hp => hm p (by simp [hp])) h2]
theorem textD_inj {t u : List Int} (ht : CanD t) (hu : CanD u) (h : textD t = textD u) : t = u := by
  by_cases h1 : textD u = noneB
  · rw [textD_none hu h1, textD_none ht (h.trans h1)]
  · by_cases h2 : textD u = allB
    · rw [textD_all hu h2, textD_all ht (h.trans h2)]
    · obtain ⟨a1, _, _⟩ := textD_parts ht h h1 h2
      obtain ⟨b1, _, _⟩ := textD_parts hu rfl h1 h2
      have e := map_spanT_inj (spansD_ok ht) (spansD_ok hu) (a1.symm.trans b1)
      refine canD_unique ht hu fun d _ _ => ?_
      rw [← spanIn_spansD ht, ← spanIn_spansD hu, e]
/-- The spans that the parts of a text say, if each says one. -/
def spansV (l : List UInt8) : List (Int × Int) := (splitC 44 l).filterMap spanV
theorem spansV_text {t : List Int} {l : List UInt8} (h : CanD t) (e : textD t = l) (h1 : l ≠ noneB) (h2 : l ≠ allB) : spansV l = spansD t ∧ ∀ x ∈ splitC 44 l, (spanV x).isSome = true := by
  obtain ⟨a, _, _⟩ := textD_parts h e h1 h2
  have hok := spansD_ok h
  unfold spansV
  rw [a]
  constructor
  · rw [List.filterMap_map]
    generalize spansD t = m at hok
    induction m with
    | nil => rfl
    | cons p m ih =>
      rw [List.filterMap_cons_some (show (spanV ∘ spanT) p = some p from spanV_text (hok p (by simp))), ih (fun q hq => hok q (by simp [hq]))]
  · intro x hx
    obtain ⟨p, hp, rfl⟩ := List.mem_map.1 hx
    rw [spanV_text (hok p hp)]; rfl
/-- Whatever days are inside: there are turns that say so. -/
theorem canD_of (f : Int → Bool) (h1 : ∀ d, d < 0 → f d = false) (h2 : ∀ d, 30000 < d → f d = false) : ∃ t, CanD t ∧ ∀ d, inD t d = f d := by
  obtain ⟨t, ht⟩ : ∃ t : List Int, t = ((List.range 30002).map (fun k : Nat => (k : Int))).filter (fun d => decide (f d ≠ f (d - 1))) := ⟨_, rfl⟩
  have hm : ∀ d, d ∈ t ↔ (0 ≤ d ∧ d ≤ 30001) ∧ f d ≠ f (d - 1) := fun d => by
    rw [ht, List.mem_filter, List.mem_map, decide_eq_true_eq]
    constructor
    · rintro ⟨⟨k, hk, rfl⟩, h⟩
      have := List.mem_range.1 hk
      exact ⟨⟨by omega, by omega⟩, h⟩
    · rintro ⟨⟨a, b⟩, h⟩
      exact ⟨⟨d.toNat, List.mem_range.2 (by omega), by omega⟩, h⟩
  have hasc : t.Pairwise (· < ·) := by
    rw [ht]
    refine List.Pairwise.filter _ ?_
    rw [List.pairwise_map]
    exact List.pairwise_lt_range.imp fun h => by omega
  have hlow : ∀ x ∈ t, 0 ≤ x := fun x hx => ((hm x).1 hx).1.1
  have htop : ∀ x ∈ t, x ≤ 30001 := fun x hx => ((hm x).1 hx).1.2
  have hneg : ∀ d, d < 0 → inD t d = false := fun d hd => by
    unfold inD
    rw [cntD_none fun x hx => by have := hlow x hx; omega]; rfl
  have hval : ∀ n : Nat, inD t ((n : Int) - 1) = f ((n : Int) - 1) := by
    intro n
    induction n with
    | zero => rw [hneg _ (by omega), h1 _ (by omega)]
    | succ n ih =>
      have e : ((n + 1 : Nat) : Int) - 1 = (n : Int) := by omega
      rw [e]
      have hs := cntD_step hasc (n : Int)
      unfold inD at ih ⊢
      rw [hs]
      by_cases hd : (n : Int) ∈ t
      · rw [if_pos hd, oddD_succ, ih]
        have := ((hm _).1 hd).2
        cases h3 : f (n : Int) <;> cases h4 : f ((n : Int) - 1) <;> simp_all
      · rw [if_neg hd, Nat.add_zero, ih]
        by_cases h3 : (n : Int) ≤ 30001
        · have : ¬ f (n : Int) ≠ f ((n : Int) - 1) := fun h4 => hd ((hm _).2 ⟨⟨by omega, h3⟩, h4⟩)
          exact (Classical.not_not.1 this).symm
        · rw [h2 _ (by omega), h2 _ (by omega)]
  have hall : ∀ d, inD t d = f d := fun d => by
    by_cases hd : d < 0
    · rw [hneg d hd, h1 d hd]
    · have := hval (d.toNat + 1)
      have e : ((d.toNat + 1 : Nat) : Int) - 1 = d := by omega
      rwa [e] at this
  refine ⟨t, ⟨hasc, hlow, htop, ?_⟩, hall⟩
  have h5 := hall 30001
  rw [h2 _ (by omega)] at h5
  unfold inD at h5
  rw [cntD_all htop] at h5
  unfold oddD at h5
  have := of_decide_eq_false h5
  omega
theorem canD_spans {l : List (Int × Int)} (h : ∀ p ∈ l, okSp p) : ∃ t, CanD t ∧ ∀ d, inD t d = spanIn l d := by
  refine canD_of (spanIn l) (fun d hd => ?_) (fun d hd => ?_)
  · unfold spanIn
    rw [List.any_eq_false]
    intro p hp
    have := h p hp
    unfold okSp at this
    rw [decide_eq_false (by omega : ¬ p.1 ≤ d)]; simp
  · unfold spanIn
    rw [List.any_eq_false]
    intro p hp
    have := h p hp
    unfold okSp at this
    rw [decide_eq_false (by omega : ¬ d ≤ p.2)]; simp

/-- What digits say. -/
def valD (l : List UInt8) : Nat := l.foldl (fun n b => 10 * n + (b.toNat - 48)) 0
theorem valD_snoc (l : List UInt8) (b : UInt8) : valD (l ++ [b]) = 10 * valD l + (b.toNat - 48) := by
  unfold valD; rw [List.foldl_append]; rfl
theorem valD_mono (l m : List UInt8) : valD l ≤ valD (l ++ m) := by
  generalize hn : m.length = n
  induction n generalizing m with
  | zero => rw [List.length_eq_zero_iff.1 hn, List.append_nil]; exact Nat.le_refl _
  | succ n ih =>
    rcases List.eq_nil_or_concat m with rfl | ⟨k, b, rfl⟩
    · simp at hn
    · rw [List.concat_eq_append] at hn ⊢
      rw [← List.append_assoc, valD_snoc]
      have := ih k (by simpa using hn)
      omega
theorem valD_dec : ∀ (d n : Nat), n ≤ d → valD (Lib.decDigits n) = n := by
  intro d
  induction d with
  | zero =>
    intro n h
    obtain rfl : n = 0 := by omega
    rw [Lib.decDigits_one (by omega)]; rfl
  | succ d ih =>
    intro n h
    have hb : ∀ k : Fin 10, (UInt8.ofNat (48 + k.val)).toNat - 48 = k.val := by decide
    by_cases h10 : n < 10
    · rw [Lib.decDigits_one h10]
      have := hb ⟨n, h10⟩
      show 10 * 0 + _ = _
      simp only at this
      omega
    · rw [Lib.decDigits, dif_neg h10, valD_snoc, ih (n / 10) (by omega)]
      have := hb ⟨n % 10, by omega⟩
      simp only at this
      omega
theorem valD_itoa {n : Int} (h : 0 ≤ n) : (valD (Lib.itoa n) : Int) = n := by
  obtain ⟨m, rfl⟩ : ∃ m : Nat, n = (m : Int) := ⟨n.toNat, by omega⟩
  rw [Lib.itoa_nonneg, valD_dec m m (Nat.le_refl _)]
theorem valD_take {l : List UInt8} {n : Int} (h0 : 0 ≤ n) (h : l = Lib.itoa n) (k : Nat) : (valD (l.take k) : Int) ≤ n := by
  have h1 := valD_mono (l.take k) (l.drop k)
  rw [List.take_append_drop] at h1
  have h2 := valD_itoa h0
  rw [← h] at h2
  omega
/-- How the text of a span is cut. -/
theorem spanT_cut {p : Int × Int} {x y : List UInt8} (h : okSp p) (hx : (45 : UInt8) ∉ x) (e : x ++ 45 :: y = spanT p) : x = Lib.itoa p.1 ∧ p.1 ≠ p.2 ∧ (y = [] → p.2 = 30000) ∧ (y ≠ [] → y = Lib.itoa p.2) := by
  obtain ⟨a, b⟩ := p
  obtain ⟨h0, h1, h2⟩ := h
  simp only at h0 h1 h2
  have hna : (45 : UInt8) ∉ Lib.itoa a := fun hm => (itoa_byteD h0 _ hm).2.2.2.1 rfl
  unfold spanT at e
  simp only at e ⊢
  by_cases hab : a = b
  · exfalso
    rw [if_pos hab, List.append_nil] at e
    exact hna (by rw [← e]; simp)
  · rw [if_neg hab] at e
    have i1 := index_of (b := y) hx
    have i2 := index_of (b := if b = 30000 then [] else Lib.itoa b) hna
    rw [e, i2] at i1
    have hl : x.length = (Lib.itoa a).length := by omega
    obtain ⟨e1, e2⟩ := List.append_inj e hl
    injection e2 with _ e2
    refine ⟨e1, hab, fun hy => ?_, fun hy => ?_⟩
    · by_cases hb : b = 30000
      · exact hb
      · rw [if_neg hb] at e2
        exact absurd (e2.symm.trans hy) (itoa_ne b (by omega))
    · by_cases hb : b = 30000
      · rw [if_pos hb] at e2; exact absurd e2 hy
      · rw [if_neg hb] at e2; exact e2
theorem spanT_plain {p : Int × Int} {x : List UInt8} (h : okSp p) (hx : (45 : UInt8) ∉ x) (e : x = spanT p) : p.1 = p.2 ∧ x = Lib.itoa p.1 := by
  unfold spanT at e
  by_cases hab : p.1 = p.2
  · rw [if_pos hab, List.append_nil] at e; exact ⟨hab, e⟩
  · exfalso
    rw [if_neg hab] at e
    exact hx (by rw [e]; simp)
end Go.Proofs.YtjglnpijngdpkaaGreatDoor
