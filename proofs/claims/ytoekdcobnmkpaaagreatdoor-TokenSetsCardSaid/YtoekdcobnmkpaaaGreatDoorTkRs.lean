/-
  Plain words for TokenSets: what a reader of a set's text has still to read.
-/
import Derived.Test.YtoekdcobnmkpaaaGreatDoorTkSx
import Derived.Test.YtoekdcobnmkpaaaGreatDoorTkY
import Derived.Test.YtoekdcobnmkpaaaGreatDoorTkPq
namespace Go.Proofs.YtoekdcobnmkpaaaGreatDoor
open Go.RowKit
set_option linter.unusedSimpArgs false
set_option linter.unusedVariables false

/-- The tokens to come are these numbers, with or without commas between them, and the end. -/
inductive Rest : List Tok → List Nat → Prop
  | fin {x : Tok} : x.k = 0 → Rest [x] []
  | num {x : Tok} {l : List Tok} {n : Nat} {ns : List Nat} : x.k = 2 → x.n = (n : Int) → Rest l ns → Rest (x :: l) (n :: ns)
  | com {x c : Tok} {l : List Tok} {n : Nat} {ns : List Nat} : x.k = 2 → x.n = (n : Int) → c.k = 3 → c.t = ⟨#[44]⟩ → Rest l ns → Rest (x :: c :: l) (n :: ns)
theorem Rest.head {l : List Tok} {ns : List Nat} (h : Rest l ns) : ∃ x t, l = x :: t ∧ (x.k = 2 ∨ x.k = 0) := by
  cases h with
  | fin h => exact ⟨_, _, rfl, Or.inr h⟩
  | num h _ _ => exact ⟨_, _, rfl, Or.inl h⟩
  | com h _ _ _ _ => exact ⟨_, _, rfl, Or.inl h⟩
def tri (s : ByteArray) (x : Nat × Nat × Nat × Nat) : List Nat × Nat × Nat := (((strB s).drop x.2.1).take x.2.2.1, x.1, x.2.2.2)
theorem rest_blank (s : ByteArray) : ∀ (ps : List (List Nat × Nat)) (ys : List (Nat × Nat × Nat × Nat)), ys.map (tri s) = ps.map (fun x => (x.1, 2, x.2)) → Rest (ys.map (tokOf s) ++ [endTok s]) (ps.map (·.2))
  | [], ys, h => by
    obtain rfl : ys = [] := by simpa using h
    exact .fin rfl
  | (p, n) :: t, ys, h => by
    cases ys with
    | nil => cases h
    | cons y u =>
      rw [List.map_cons, List.map_cons, List.cons.injEq] at h
      obtain ⟨h1, h2⟩ := h
      unfold tri at h1
      simp only [Prod.mk.injEq] at h1
      have ih := rest_blank s t u h2
      exact .num (show y.1 = 2 from h1.2.1) (show ((y.2.2.2 : Nat) : Int) = (n : Int) by rw [h1.2.2]) ih
theorem strB_one {x : ByteArray} (h : strB x = [44]) : x = ⟨#[44]⟩ := by
  refine str_extT ?_
  unfold strB at h
  cases hx : x.data.toList with
  | nil => rw [hx] at h; cases h
  | cons b t =>
    rw [hx, List.map_cons, List.cons.injEq] at h
    have ht : t = [] := by simpa using h.2
    have hb : b = 44 := UInt8.toNat_inj.1 h.1
    rw [ht, hb]
theorem rest_comma (s : ByteArray) : ∀ (ps : List (List Nat × Nat)) (ys : List (Nat × Nat × Nat × Nat)), ys.map (tri s) = withC ps → Rest (ys.map (tokOf s) ++ [endTok s]) (ps.map (·.2))
  | [], ys, h => by
    obtain rfl : ys = [] := by simpa [withC] using h
    exact .fin rfl
  | [(p, n)], ys, h => rest_blank s [(p, n)] ys h
  | (p, n) :: q :: t, ys, h => by
    rw [withC] at h
    cases ys with
    | nil => cases h
    | cons y u =>
      cases u with
      | nil => simp at h
      | cons c u =>
        rw [List.map_cons, List.map_cons, List.cons.injEq, List.cons.injEq] at h
        obtain ⟨h1, h3, h2⟩ := h
        unfold tri at h1 h3
        simp only [Prod.mk.injEq] at h1 h3
        have ih := rest_comma s (q :: t) u h2
        refine .com (show y.1 = 2 from h1.2.1) (show ((y.2.2.2 : Nat) : Int) = (n : Int) by rw [h1.2.2]) (show c.1 = 3 from h3.2.1) ?_ ih
        show s.extract c.2.1 (c.2.1 + c.2.2.1) = _
        exact strB_one (by rw [ext_take]; exact h3.1)
theorem drop_get {l t : List Tok} {x : Tok} {i : Nat} (h : l.drop i = x :: t) : i < l.length ∧ l.getD i tok0 = x ∧ l.drop (i + 1) = t := by
  have hi : i < l.length := by
    refine Nat.lt_of_not_le fun e => ?_
    rw [List.drop_of_length_le e] at h; cases h
  rw [List.drop_eq_getElem_cons hi, List.cons.injEq] at h
  exact ⟨hi, by rw [← h.1]; simp [List.getD, hi], h.2⟩
theorem rest_end {l : List Tok} {r : RS} (he : r.er = 0) (h : Rest (l.drop r.nx) []) : (peekS l r).k = 0 := by
  generalize hd : l.drop r.nx = d at h
  cases h with
  | fin hk =>
    obtain ⟨hi, hg, _⟩ := drop_get hd
    rw [peekS_at he hi, hg]; exact hk
theorem rest_step {l : List Tok} {r : RS} {n : Nat} {ns : List Nat} (he : r.er = 0) (h : Rest (l.drop r.nx) (n :: ns)) (hn : n ≤ 4095) :
    (peekS l r).k = 2 ∧ (numS15 l r 0 4095).2 = (n : Int) ∧ ∃ r2, acceptS l (numS15 l r 0 4095).1 ⟨#[44]⟩ = r2 ∧ r2.er = 0 ∧ r.nx < r2.nx ∧ r2.nx ≤ l.length ∧ Rest (l.drop r2.nx) ns := by
  generalize hd : l.drop r.nx = d at h
  have key : ∀ x t, d = x :: t → x.k = 2 → x.n = (n : Int) → (peekS l r).k = 2 ∧ numS15 l r 0 4095 = (⟨r.nx + 1, 0, r.of⟩, (n : Int)) ∧ r.nx < l.length ∧ l.drop (r.nx + 1) = t := fun x t ht hk hx => by
    rw [ht] at hd
    obtain ⟨hi, hg, hdt⟩ := drop_get hd
    have hp : peekS l r = x := by rw [peekS_at he hi, hg]
    refine ⟨by rw [hp]; exact hk, ?_, hi, hdt⟩
    unfold numS15 nextS
    rw [hp, hk, hx, if_neg (by decide), if_neg (by omega), if_neg (by decide), he]
  cases h with
  | num hk hx hr =>
    obtain ⟨g1, g2, g3, g4⟩ := key _ _ rfl hk hx
    refine ⟨g1, by rw [g2], ⟨r.nx + 1, 0, r.of⟩, ?_, rfl, Nat.lt_succ_self _, g3, by show Rest (l.drop (r.nx + 1)) ns; rw [g4]; exact hr⟩
    rw [g2]
    obtain ⟨y, t, e, hy⟩ := hr.head
    rw [e] at g4
    obtain ⟨hi, hg, _⟩ := drop_get g4
    have hp : peekS l ⟨r.nx + 1, 0, r.of⟩ = y := by rw [peekS_at rfl hi]; exact hg
    unfold acceptS isS
    rw [hp]
    rcases hy with hy | hy <;> rw [hy] <;> rfl
  | @com x c l2 _ _ hk hx hc ht hr =>
    obtain ⟨g1, g2, g3, g4⟩ := key _ _ rfl hk hx
    obtain ⟨hi, hg, hdt⟩ := drop_get g4
    refine ⟨g1, by rw [g2], ⟨r.nx + 2, 0, r.of⟩, ?_, rfl, by show r.nx < r.nx + 2; omega, hi, by show Rest (l.drop (r.nx + 2)) ns; rw [hdt]; exact hr⟩
    rw [g2]
    have hp : peekS l ⟨r.nx + 1, 0, r.of⟩ = c := by rw [peekS_at rfl hi]; exact hg
    unfold acceptS isS nextS
    rw [hp, hc, ht]
    rfl
end Go.Proofs.YtoekdcobnmkpaaaGreatDoor
