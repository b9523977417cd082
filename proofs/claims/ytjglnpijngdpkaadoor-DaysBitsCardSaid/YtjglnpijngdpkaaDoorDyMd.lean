import Derived.Test.YtjglnpijngdpkaaDoorDyX
import Derived.Test.YtjglnpijngdpkaaDoorDyE
import Derived.Test.YtjglnpijngdpkaaDoorDyLn
/-
  Days: sets by their members.
-/
namespace Go.Proofs.YtjglnpijngdpkaaDoor
open Go.RowKit Go.Shelf
set_option linter.unusedSimpArgs false
set_option linter.unusedVariables false
set_option maxRecDepth 100000

/-- A set whose members are said by a function. -/
def MemD (W : World) (v : Value) (F : Int → Bool) : Prop := ∃ r, SetD W v r ∧ ∀ d, 0 ≤ d → d ≤ 30000 → inD r d = F d
theorem MemD.on {a b : World} {v : Value} {F : Int → Bool} (h : MemD a v F) (k : Kept (fun _ => False) a b) : MemD b v F := by
  obtain ⟨r, h1, h2⟩ := h
  exact ⟨r, h1.on k, h2⟩
theorem not_M (w : World) (v : Value) {F : Int → Bool} (h : MemD w v F) : Calls Tryd.prog 23 #[v] w fun e w' => ∃ x, e = .returned x ∧ MemD w' x (fun d => !F d) ∧ Kept (fun _ => False) w w' := by
  obtain ⟨r, h1, h2⟩ := h
  refine (dayNot_any v r w h1).mono ?_
  rintro e w' ⟨x, q, rfl, hq, hin, k⟩
  exact ⟨x, rfl, ⟨q, hq, fun d h0 h3 => by rw [hin d h0 h3, h2 d h0 h3]⟩, k⟩
theorem or_M (w : World) (v u : Value) {F G : Int → Bool} (h : MemD w v F) (k : MemD w u G) : Calls Tryd.prog 20 #[v, u] w fun e w' => ∃ x, e = .returned x ∧ MemD w' x (fun d => F d || G d) ∧ Kept (fun _ => False) w w' := by
  obtain ⟨r, h1, h2⟩ := h
  obtain ⟨q, k1, k2⟩ := k
  refine (dayOr_any v u r q w h1 k1).mono ?_
  rintro e w' ⟨x, p, rfl, hp, hin, k⟩
  exact ⟨x, rfl, ⟨p, hp, fun d h0 h3 => by rw [hin d, h2 d h0 h3, k2 d h0 h3]; rfl⟩, k⟩
theorem and_M (w : World) (v u : Value) {F G : Int → Bool} (h : MemD w v F) (k : MemD w u G) : Calls Tryd.prog 21 #[v, u] w fun e w' => ∃ x, e = .returned x ∧ MemD w' x (fun d => F d && G d) ∧ Kept (fun _ => False) w w' := by
  obtain ⟨r, h1, h2⟩ := h
  obtain ⟨q, k1, k2⟩ := k
  refine (dayAnd_any v u r q w h1 k1).mono ?_
  rintro e w' ⟨x, p, rfl, hp, hin, k⟩
  exact ⟨x, rfl, ⟨p, hp, fun d h0 h3 => by rw [hin d, h2 d h0 h3, k2 d h0 h3]; rfl⟩, k⟩
theorem minus_M (w : World) (v u : Value) {F G : Int → Bool} (h : MemD w v F) (k : MemD w u G) : Calls Tryd.prog 22 #[v, u] w fun e w' => ∃ x, e = .returned x ∧ MemD w' x (fun d => F d && !G d) ∧ Kept (fun _ => False) w w' := by
  obtain ⟨r, h1, h2⟩ := h
  obtain ⟨q, k1, k2⟩ := k
  refine (dayMinus_any v u r q w h1 k1).mono ?_
  rintro e w' ⟨x, p, rfl, hp, hin, k⟩
  exact ⟨x, rfl, ⟨p, hp, fun d h0 h3 => by rw [hin d, h2 d h0 h3, k2 d h0 h3]; rfl⟩, k⟩
theorem all_M (w : World) : Calls Tryd.prog 24 #[] w fun e w' => ∃ x, e = .returned x ∧ MemD w' x (fun _ => true) ∧ Kept (fun _ => False) w w' := by
  refine (allD_any w).mono ?_
  rintro e w' ⟨x, rfl, hx, k⟩
  exact ⟨x, rfl, ⟨allD, hx, fun d h0 h1 => inD_allD h0 h1⟩, k⟩
theorem eq_M (w : World) (v u : Value) {F G : Int → Bool} (h : MemD w v F) (k : MemD w u G) (he : ∀ d, F d = G d) : Calls Tryd.prog 15 #[v, u] w fun e w' => e = .returned (.bool true) ∧ Kept (fun _ => False) w w' := by
  obtain ⟨r, h1, h2⟩ := h
  obtain ⟨q, k1, k2⟩ := k
  obtain rfl : r = q := canD_unique h1.can k1.can fun d h0 h3 => by rw [h2 d h0 h3, k2 d h0 h3, he]
  refine (dayEqual_any v u r r w h1 k1).mono ?_
  rintro e w' ⟨rfl, k⟩
  exact ⟨by rw [decide_eq_true rfl], k⟩
theorem empty_M (w : World) (v : Value) {F : Int → Bool} (h : MemD w v F) (he : ∀ d, F d = false) : Calls Tryd.prog 14 #[v] w fun e w' => e = .returned (.bool true) ∧ Kept (fun _ => False) w w' := by
  obtain ⟨r, h1, h2⟩ := h
  obtain rfl : r = [] := canD_unique h1.can CanD.nil fun d h0 h3 => by rw [h2 d h0 h3, he]; rfl
  refine (dayEmpty_any v [] w h1).mono ?_
  rintro e w' ⟨rfl, k⟩
  exact ⟨rfl, k⟩
/-- How many days a function says. -/
def cntF (F : Int → Bool) : Int := ((cntT ((List.range 30001).map fun d : Nat => F (d : Int)) : Nat) : Int)
theorem len_M (w : World) (v : Value) {F : Int → Bool} (c : Int) (h : MemD w v F) (hc : c = cntF F) : Calls Tryd.prog 25 #[v] w fun e w' => e = .returned (.int .i64 c) ∧ Kept (fun _ => False) w w' := by
  obtain ⟨r, h1, h2⟩ := h
  have hl : ((List.range 30001).map fun d : Nat => F (d : Int)).length = 30001 := by simp
  have e : cntF F = lenSp (spansD r) := lenD_ref hl h1.can fun d hd => by
    have hd2 : d < 30001 := by omega
    simp only [List.getD, List.getElem?_map, List.getElem?_range hd2, Option.map_some, Option.getD_some]
    exact (h2 d (by omega) (by omega)).symm
  rw [hc, e]
  exact lenP_any w v r h1
theorem cnt_not (F : Int → Bool) : ∀ l : List Nat, cntT (l.map fun d : Nat => F (d : Int)) + cntT (l.map fun d : Nat => !F (d : Int)) = l.length
  | [] => rfl
  | x :: l => by
    have ih := cnt_not F l
    have e : ∀ (b : Bool) (m : List Bool), cntT (b :: m) = (if b = true then 1 else 0) + cntT m := fun b m => by unfold cntT; cases b <;> simp [Nat.add_comm]
    rw [List.map_cons, List.map_cons, e, e, List.length_cons]
    cases F (x : Int) <;> simp <;> omega
theorem cnt_or (F G : Int → Bool) : ∀ l : List Nat, cntT (l.map fun d : Nat => (F (d : Int) || G (d : Int))) + cntT (l.map fun d : Nat => (F (d : Int) && G (d : Int))) = cntT (l.map fun d : Nat => F (d : Int)) + cntT (l.map fun d : Nat => G (d : Int))
  | [] => rfl
  | x :: l => by
    have ih := cnt_or F G l
    have e : ∀ (b : Bool) (m : List Bool), cntT (b :: m) = (if b = true then 1 else 0) + cntT m := fun b m => by unfold cntT; cases b <;> simp [Nat.add_comm]
    rw [List.map_cons, List.map_cons, List.map_cons, List.map_cons, e, e, e, e]
    cases F (x : Int) <;> cases G (x : Int) <;> simp <;> omega
theorem cntF_not (F : Int → Bool) : cntF F + cntF (fun d => !F d) = 30001 := by
  have := cnt_not F (List.range 30001)
  rw [List.length_range] at this
  show ((cntT ((List.range 30001).map fun d : Nat => F (d : Int)) : Nat) : Int) + ((cntT ((List.range 30001).map fun d : Nat => !F (d : Int)) : Nat) : Int) = 30001
  omega
theorem cntF_or (F G : Int → Bool) : cntF (fun d => F d || G d) + cntF (fun d => F d && G d) = cntF F + cntF G := by
  have := cnt_or F G (List.range 30001)
  show ((cntT ((List.range 30001).map fun d : Nat => (F (d : Int) || G (d : Int))) : Nat) : Int) + ((cntT ((List.range 30001).map fun d : Nat => (F (d : Int) && G (d : Int))) : Nat) : Int) = ((cntT ((List.range 30001).map fun d : Nat => F (d : Int)) : Nat) : Int) + ((cntT ((List.range 30001).map fun d : Nat => G (d : Int)) : Nat) : Int)
  omega
theorem cntF_all : cntF (fun _ => true) = 30001 := by
  have h1 : cntF (fun _ => true) + cntF (fun _ => false) = 30001 := cntF_not (fun _ => true)
  have h2 : cntF (fun _ => false) = 0 := by
    have : ((List.range 30001).map fun d : Nat => (fun _ : Int => false) (d : Int)).filter (fun b => b) = [] := by
      rw [List.filter_eq_nil_iff]
      intro b hb
      obtain ⟨x, _, rfl⟩ := List.mem_map.1 hb
      simp
    unfold cntF cntT
    rw [this]; rfl
  omega
theorem cntF_le (F : Int → Bool) : 0 ≤ cntF F ∧ cntF F ≤ 30001 := by
  have h := cntT_le ((List.range 30001).map fun d : Nat => F (d : Int))
  rw [List.length_map, List.length_range] at h
  unfold cntF
  omega
end Go.Proofs.YtjglnpijngdpkaaDoor
