/-
  Plain words of membership: the list of all entries of a book; assigning, revoking and expiring on that list.
-/
import Derived.Test.YtccanbjnbmihgaaDoorMbB
namespace Go.Proofs.YtccanbjnbmihgaaDoor
set_option linter.unusedVariables false
set_option linter.unusedSimpArgs false

/-- All entries, by user and role. -/
def allE (H : Nat → List Ent) : List Ent := (List.range 257).flatMap H
/-- The order of entries. -/
def bef (a b : Ent) : Bool := decide (a.u < b.u ∨ (a.u = b.u ∧ a.r < b.r))
/-- An entry put ahead of the first greater one. -/
def insE (x : Ent) : List Ent → List Ent
  | [] => [x]
  | y :: t => if bef x y then x :: y :: t else y :: insE x t
def notE (u r : Int) (x : Ent) : Bool := decide (¬ (x.u = u ∧ x.r = r))
def asgE (L : List Ent) (x : Ent) : List Ent := insE x (L.filter (notE x.u x.r))

/-- What holds of all the rows of a book. -/
structure Rows2 (H : Nat → List Ent) : Prop where
  user : ∀ u, u < 257 → ∀ x ∈ H u, x.u = (u : Int)
  asc : ∀ u, u < 257 → Asc (H u)
  fit : ∀ u, u < 257 → ∀ x ∈ H u, 1 ≤ x.r ∧ x.r ≤ 63 ∧ 0 ≤ x.t ∧ x.t ≤ 30000
  none : H 0 = []

theorem insE_skip (x : Ent) (B : List Ent) : ∀ A : List Ent, (∀ y ∈ A, bef x y = false) → insE x (A ++ B) = A ++ insE x B
  | [], _ => rfl
  | y :: t, h => by
    have h0 := h y (by simp)
    rw [List.cons_append, insE, if_neg (by rw [h0]; simp), insE_skip x B t (fun z hz => h z (by simp [hz]))]
    rfl
theorem insE_head (x : Ent) : ∀ B : List Ent, (∀ y ∈ B, bef x y = true) → insE x B = x :: B
  | [], _ => rfl
  | y :: t, h => by rw [insE, if_pos (h y (by simp))]

theorem flatMap_congr' {α β : Type} {f g : α → List β} : ∀ l : List α, (∀ x ∈ l, f x = g x) → l.flatMap f = l.flatMap g
  | [], _ => rfl
  | x :: t, h => by
    rw [List.flatMap_cons, List.flatMap_cons, h x (by simp), flatMap_congr' t (fun y hy => h y (by simp [hy]))]
theorem filter_flatMap' {α β : Type} (p : β → Bool) (f : α → List β) : ∀ l : List α, (l.flatMap f).filter p = l.flatMap (fun x => (f x).filter p)
  | [] => rfl
  | x :: t => by rw [List.flatMap_cons, List.flatMap_cons, List.filter_append, filter_flatMap' p f t]
theorem allE_filter {H H' : Nat → List Ent} (p : Ent → Bool) (h : ∀ u, u < 257 → H' u = (H u).filter p) : allE H' = (allE H).filter p := by
  unfold allE
  rw [filter_flatMap']
  exact flatMap_congr' _ (fun u hu => h u (List.mem_range.1 hu))
theorem allE_split (H : Nat → List Ent) (u : Nat) (hu : u < 257) :
    allE H = (List.range u).flatMap H ++ (H u ++ (List.range' (u + 1) (256 - u)).flatMap H) := by
  unfold allE
  have e : List.range 257 = List.range u ++ (u :: List.range' (u + 1) (256 - u)) := by
    rw [List.range_eq_range', List.range_eq_range']
    have : List.range' 0 257 = List.range' 0 u ++ List.range' (0 + u) (257 - u) := by
      rw [List.range'_append_1]; congr 1; omega
    rw [this, Nat.zero_add, show 257 - u = (256 - u) + 1 by omega, List.range'_succ]
  rw [e, List.flatMap_append, List.flatMap_cons]
theorem allE_mem {H : Nat → List Ent} (x : Ent) : x ∈ allE H ↔ ∃ u, u < 257 ∧ x ∈ H u := by
  unfold allE
  simp [List.mem_flatMap]

theorem allE_put {H : Nat → List Ent} (h : Rows2 H) (x : Ent) (u : Nat) (hu : u < 257) (hx : x.u = (u : Int)) :
    allE (upd H u (putR (H u) x)) = asgE (allE H) x := by
  unfold asgE
  rw [allE_split (upd H u (putR (H u) x)) u hu, allE_split H u hu, List.filter_append, List.filter_append]
  have e1 : (List.range u).flatMap (upd H u (putR (H u) x)) = (List.range u).flatMap H := flatMap_congr' _ (fun k hk => by
    have := List.mem_range.1 hk
    unfold upd; rw [if_neg (by omega)])
  have e2 : (List.range' (u + 1) (256 - u)).flatMap (upd H u (putR (H u) x)) = (List.range' (u + 1) (256 - u)).flatMap H := flatMap_congr' _ (fun k hk => by
    have := List.mem_range'_1.1 hk
    unfold upd; rw [if_neg (by omega)])
  have e3 : upd H u (putR (H u) x) u = putR (H u) x := by unfold upd; rw [if_pos rfl]
  rw [e1, e2, e3]
  have a1 : ∀ y ∈ (List.range u).flatMap H, y.u < x.u := fun y hy => by
    obtain ⟨k, hk, hy⟩ := List.mem_flatMap.1 hy
    have hk := List.mem_range.1 hk
    have := h.user k (by omega) y hy
    omega
  have a2 : ∀ y ∈ (List.range' (u + 1) (256 - u)).flatMap H, x.u < y.u := fun y hy => by
    obtain ⟨k, hk, hy⟩ := List.mem_flatMap.1 hy
    have hk := List.mem_range'_1.1 hk
    have := h.user k (by omega) y hy
    omega
  have f1 : ((List.range u).flatMap H).filter (notE x.u x.r) = (List.range u).flatMap H := List.filter_eq_self.2 (fun y hy => by
    have := a1 y hy
    unfold notE; simp; omega)
  have f2 : ((List.range' (u + 1) (256 - u)).flatMap H).filter (notE x.u x.r) = (List.range' (u + 1) (256 - u)).flatMap H := List.filter_eq_self.2 (fun y hy => by
    have := a2 y hy
    unfold notE; simp; omega)
  rw [f1, f2]
  have key : ∀ l : List Ent, Asc l → (∀ y ∈ l, y.u = x.u) → l.filter (notE x.u x.r) = l.filter (fun y => decide (y.r < x.r)) ++ l.filter (fun y => decide (x.r < y.r)) := by
    intro l
    induction l with
    | nil => intro _ _; rfl
    | cons y t ih =>
      intro ha hus
      have it := ih (asc_tail ha) (fun z hz => hus z (by simp [hz]))
      have hh := asc_head ha
      have hy := hus y (by simp)
      rcases Int.lt_trichotomy y.r x.r with hlt | heq | hgt
      · rw [List.filter_cons, if_pos (by unfold notE; simp; omega), List.filter_cons, if_pos (by simp; omega), List.filter_cons, if_neg (by simp; omega), it]
        rfl
      · have n1 : t.filter (fun z => decide (z.r < x.r)) = [] := List.filter_eq_nil_iff.2 (fun z hz => by have := hh z hz; simp; omega)
        rw [List.filter_cons, if_neg (by unfold notE; simp; omega), List.filter_cons, if_neg (by simp; omega), List.filter_cons, if_neg (by simp; omega), it]
      · have n1 : t.filter (fun z => decide (z.r < x.r)) = [] := List.filter_eq_nil_iff.2 (fun z hz => by have := hh z hz; simp; omega)
        rw [List.filter_cons, if_pos (by unfold notE; simp; omega), List.filter_cons, if_neg (by simp; omega), List.filter_cons, if_pos (by simp; omega), it, n1]
        rfl
  rw [key (H u) (h.asc u hu) (fun y hy => by rw [h.user u hu y hy, hx])]
  rw [insE_skip x _ _ (fun y hy => by have := a1 y hy; unfold bef; simp; omega)]
  rw [List.append_assoc, insE_skip x _ _ (fun y hy => by
    obtain ⟨hy, hr⟩ := List.mem_filter.1 hy
    have := h.user u hu y hy
    have hr : y.r < x.r := by simpa using hr
    unfold bef; simp; omega)]
  rw [insE_head x _ (fun y hy => by
    rcases List.mem_append.1 hy with hy | hy
    · obtain ⟨hy, hr⟩ := List.mem_filter.1 hy
      have := h.user u hu y hy
      have hr : x.r < y.r := by simpa using hr
      unfold bef; simp; omega
    · have := a2 y hy
      unfold bef; simp; omega)]
  unfold putR
  simp [List.append_assoc]

theorem allE_del {H : Nat → List Ent} (h : Rows2 H) (r : Int) (u : Nat) (hu : u < 257) :
    allE (upd H u ((H u).filter (fun y => decide (y.r ≠ r)))) = (allE H).filter (notE u r) := by
  refine allE_filter _ (fun k hk => ?_)
  unfold upd
  by_cases e : k = u
  · subst e
    rw [if_pos rfl]
    refine List.filter_congr (fun y hy => ?_)
    have := h.user k hu y hy
    unfold notE; simp [this]
  · rw [if_neg e]
    exact (List.filter_eq_self.2 (fun y hy => by
      have := h.user k hk y hy
      unfold notE; simp; omega)).symm
theorem asc_filter {l : List Ent} (p : Ent → Bool) (h : Asc l) : Asc (l.filter p) := by
  rw [asc_pair] at h ⊢
  exact h.filter p
theorem Rows2.upd {H : Nat → List Ent} (h : Rows2 H) {u : Nat} {l : List Ent} (h1 : ∀ x ∈ l, x.u = (u : Int)) (h2 : Asc l) (h3 : ∀ x ∈ l, 1 ≤ x.r ∧ x.r ≤ 63 ∧ 0 ≤ x.t ∧ x.t ≤ 30000) (h4 : 1 ≤ u) : Rows2 (upd H u l) := by
  refine ⟨fun k hk x hx => ?_, fun k hk => ?_, fun k hk x hx => ?_, ?_⟩
  · unfold Proofs.YtccanbjnbmihgaaDoor.upd at hx
    by_cases e : k = u
    · rw [if_pos e] at hx; rw [h1 x hx, e]
    · rw [if_neg e] at hx; exact h.user k hk x hx
  · unfold Proofs.YtccanbjnbmihgaaDoor.upd
    by_cases e : k = u
    · rw [if_pos e]; exact h2
    · rw [if_neg e]; exact h.asc k hk
  · unfold Proofs.YtccanbjnbmihgaaDoor.upd at hx
    by_cases e : k = u
    · rw [if_pos e] at hx; exact h3 x hx
    · rw [if_neg e] at hx; exact h.fit k hk x hx
  · unfold Proofs.YtccanbjnbmihgaaDoor.upd
    rw [if_neg (by omega)]; exact h.none
theorem Rows2.put {H : Nat → List Ent} (h : Rows2 H) {u : Nat} {x : Ent} (hu : u < 257) (h4 : 1 ≤ u) (hx : x.u = (u : Int)) (hr : 1 ≤ x.r ∧ x.r ≤ 63) (ht : 0 ≤ x.t ∧ x.t ≤ 30000) : Rows2 (Proofs.YtccanbjnbmihgaaDoor.upd H u (putR (H u) x)) := by
  refine h.upd (user_putR (h.user u hu) hx) (asc_putR (h.asc u hu)) (fun y hy => ?_) h4
  unfold putR at hy
  simp only [List.mem_append, List.mem_singleton, List.mem_filter] at hy
  rcases hy with (hy | hy) | hy
  · exact h.fit u hu y hy.1
  · rw [hy]; exact ⟨hr.1, hr.2, ht.1, ht.2⟩
  · exact h.fit u hu y hy.1
theorem Rows2.filter {H H' : Nat → List Ent} (h : Rows2 H) (p : Ent → Bool) (e : ∀ u, u < 257 → H' u = (H u).filter p) : Rows2 H' := by
  refine ⟨fun k hk x hx => ?_, fun k hk => ?_, fun k hk x hx => ?_, ?_⟩
  · rw [e k hk] at hx; exact h.user k hk x (List.mem_filter.1 hx).1
  · rw [e k hk]; exact asc_filter _ (h.asc k hk)
  · rw [e k hk] at hx; exact h.fit k hk x (List.mem_filter.1 hx).1
  · rw [e 0 (by omega), h.none]; rfl
theorem Rows2.nil : Rows2 (fun _ => []) := ⟨fun _ _ _ h => by simp at h, fun _ _ i j _ h => by simp at h, fun _ _ _ h => by simp at h, rfl⟩
theorem allE_nil : allE (fun _ => []) = [] := by
  unfold allE
  exact List.flatMap_eq_nil_iff.2 (fun _ _ => rfl)
/-- The row of a user. -/
theorem allE_row {H : Nat → List Ent} (h : Rows2 H) (u : Nat) (hu : u < 257) : (allE H).filter (fun y => decide (y.u = (u : Int))) = H u := by
  rw [allE_split H u hu, List.filter_append, List.filter_append]
  have f1 : ((List.range u).flatMap H).filter (fun y => decide (y.u = (u : Int))) = [] := List.filter_eq_nil_iff.2 (fun y hy => by
    obtain ⟨k, hk, hy⟩ := List.mem_flatMap.1 hy
    have hk := List.mem_range.1 hk
    have := h.user k (by omega) y hy
    simp; omega)
  have f2 : ((List.range' (u + 1) (256 - u)).flatMap H).filter (fun y => decide (y.u = (u : Int))) = [] := List.filter_eq_nil_iff.2 (fun y hy => by
    obtain ⟨k, hk, hy⟩ := List.mem_flatMap.1 hy
    have hk := List.mem_range'_1.1 hk
    have := h.user k (by omega) y hy
    simp; omega)
  rw [f1, f2, List.filter_eq_self.2 (fun y hy => by simpa using h.user u hu y hy)]
  simp

end Go.Proofs.YtccanbjnbmihgaaDoor
