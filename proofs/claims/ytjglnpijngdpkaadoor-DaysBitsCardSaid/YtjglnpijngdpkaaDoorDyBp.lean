import Derived.Test.YtjglnpijngdpkaaDoorGA
import Derived.Test.YtjglnpijngdpkaaDoorDyMd
/-
  Days and sets of numbers: plain words. No program is named here.
-/
namespace Go.Proofs.YtjglnpijngdpkaaDoor
set_option linter.unusedSimpArgs false
set_option linter.unusedVariables false

/-- The numbers below 4096 of a mask are the days that a function says, and there are no others. -/
structure RelB (M : Nat) (F : Int → Bool) : Prop where
  small : Small M
  bit : ∀ x : Nat, M.testBit x = F (x : Int)
theorem RelB.ext {M : Nat} {F G : Int → Bool} (h : RelB M F) (e : ∀ x : Nat, F (x : Int) = G (x : Int)) : RelB M G := ⟨h.small, fun x => (h.bit x).trans (e x)⟩
theorem RelB.zero : RelB 0 (fun _ => false) := ⟨fun e _ => Nat.pow_pos (by omega), fun x => by simp⟩
theorem RelB.or {M K : Nat} {F G : Int → Bool} (h : RelB M F) (k : RelB K G) : RelB (M ||| K) (fun d => F d || G d) := ⟨small_or h.small k.small, fun x => by rw [Nat.testBit_or, h.bit, k.bit]⟩
theorem RelB.and {M K : Nat} {F G : Int → Bool} (h : RelB M F) (k : RelB K G) : RelB (M &&& K) (fun d => F d && G d) := ⟨small_and h.small, fun x => by rw [Nat.testBit_and, h.bit, k.bit]⟩
theorem RelB.minus {M K : Nat} {F G : Int → Bool} (h : RelB M F) (k : RelB K G) : RelB (anN M K) (fun d => F d && !G d) := ⟨small_an h.small, fun x => by rw [anN_bit, h.bit, k.bit]⟩
theorem RelB.below (n : Nat) (h : n ≤ 4096) : RelB (2 ^ clampN (n : Int) - 1) (fun d => decide (d < (n : Int))) := by
  have hc : clampN (n : Int) = n := by unfold clampN; rw [if_neg (by omega), if_pos (by omega)]; omega
  rw [hc]
  refine ⟨ones_small n h, fun x => ?_⟩
  rw [Nat.testBit_two_pow_sub_one, decide_eq_decide]
  omega
theorem RelB.zero_iff {M : Nat} {F : Int → Bool} (h : RelB M F) : M = 0 ↔ ∀ x : Nat, F (x : Int) = false := by
  constructor
  · rintro rfl x; rw [← h.bit]; simp
  · intro e
    exact Nat.eq_of_testBit_eq fun x => by rw [h.bit, e]; simp
theorem RelB.eq_iff {M K : Nat} {F G : Int → Bool} (h : RelB M F) (k : RelB K G) : M = K ↔ ∀ x : Nat, F (x : Int) = G (x : Int) := by
  constructor
  · rintro rfl x; rw [← h.bit, ← k.bit]
  · intro e
    exact Nat.eq_of_testBit_eq fun x => by rw [h.bit, k.bit, e]
theorem RelB.cntN {M : Nat} {F : Int → Bool} (h : RelB M F) (n : Nat) : (memM M n).length = cntT ((List.range n).map fun d : Nat => F (d : Int)) := by
  induction n with
  | zero => rfl
  | succ n ih =>
    have e : (memM M (n + 1)).length = (memM M n).length + (if M.testBit n = true then 1 else 0) := by
      unfold memM
      rw [List.range_succ, List.filter_append, List.map_append, List.length_append]
      cases hb : M.testBit n <;> simp [hb]
    rw [e, ih, List.range_succ, List.map_append, List.map_cons, List.map_nil, cntT_snoc, h.bit]
/-- As many days as numbers. -/
theorem RelB.count {M : Nat} {F : Int → Bool} (h : RelB M F) (hF : ∀ x : Nat, 301 ≤ x → F (x : Int) = false) : cntF F = ((memM M 4096).length : Int) := by
  have key : ∀ n m : Nat, 301 ≤ n → (cntT ((List.range (n + m)).map fun d : Nat => F (d : Int))) = cntT ((List.range n).map fun d : Nat => F (d : Int)) := by
    intro n m hn
    induction m with
    | zero => rfl
    | succ m ih =>
      rw [show n + (m + 1) = (n + m) + 1 by omega, List.range_succ, List.map_append, List.map_cons, List.map_nil, cntT_snoc, ih, hF (n + m) (by omega)]
      simp
  have k1 := key 301 (30001 - 301) (Nat.le_refl _)
  have k2 := key 301 (4096 - 301) (Nat.le_refl _)
  have k3 := h.cntN 4096
  unfold cntF
  rw [k3]
  rw [show 301 + (30001 - 301) = 30001 from rfl] at k1
  rw [show 301 + (4096 - 301) = 4096 from rfl] at k2
  rw [k1, k2]
end Go.Proofs.YtjglnpijngdpkaaDoor
