import Derived.Test.YtjglnpijngdpkaaDoorDyS2
import Derived.Test.YtjglnpijngdpkaaDoorDyM2
import Derived.Test.YtjglnpijngdpkaaDoorGD
import Derived.Test.YtjglnpijngdpkaaDoorGE
import Derived.Test.YtjglnpijngdpkaaDoorDyX
/-
  Days and sets of numbers, both by their members.
-/
namespace Go.Proofs.YtjglnpijngdpkaaDoor
open Go.RowKit Go.Shelf
set_option linter.unusedSimpArgs false
set_option linter.unusedVariables false
set_option maxRecDepth 100000

/-- A set of numbers whose members are said by a function. -/
def SetB (W : World) (v : Value) (F : Int → Bool) : Prop := ∃ M, SetV W v M ∧ RelB M F
theorem SetB.on {a b : World} {v : Value} {F : Int → Bool} (h : SetB a v F) (k : Kept (fun _ => False) a b) : SetB b v F := by
  obtain ⟨M, h1, h2⟩ := h
  exact ⟨M, h1.onD k, h2⟩
def FarB (F : Int → Bool) : Prop := ∀ x : Nat, 301 ≤ x → F (x : Int) = false
theorem FarB.or {F G : Int → Bool} (h : FarB F) (k : FarB G) : FarB (fun d => F d || G d) := fun x hx => by simp [h x hx, k x hx]
theorem FarB.and {F G : Int → Bool} (h : FarB F) : FarB (fun d => F d && G d) := fun x hx => by simp [h x hx]
theorem FarB.minus {F G : Int → Bool} (h : FarB F) : FarB (fun d => F d && !G d) := fun x hx => by simp [h x hx]
theorem orB_any (w : World) (v u : Value) {F G : Int → Bool} (h : SetB w v F) (k : SetB w u G) : Calls Tryd.prog 32 #[v, u] w fun e w' => ∃ x, e = .returned x ∧ SetB w' x (fun d => F d || G d) ∧ Kept (fun _ => False) w w' := by
  obtain ⟨M, h1, h2⟩ := h
  obtain ⟨K, k1, k2⟩ := k
  refine (or_any w v u M K h1 k1 h2.small k2.small).mono ?_
  rintro e w' ⟨x, rfl, hx, _, k⟩
  exact ⟨x, rfl, ⟨_, hx, h2.or k2⟩, k⟩
theorem andB_any (w : World) (v u : Value) {F G : Int → Bool} (h : SetB w v F) (k : SetB w u G) : Calls Tryd.prog 40 #[v, u] w fun e w' => ∃ x, e = .returned x ∧ SetB w' x (fun d => F d && G d) ∧ Kept (fun _ => False) w w' := by
  obtain ⟨M, h1, h2⟩ := h
  obtain ⟨K, k1, k2⟩ := k
  refine (and_any w v u M K h1 k1 h2.small k2.small).mono ?_
  rintro e w' ⟨x, rfl, hx, _, k⟩
  exact ⟨x, rfl, ⟨_, hx, h2.and k2⟩, k⟩
theorem minusB_any (w : World) (v u : Value) {F G : Int → Bool} (h : SetB w v F) (k : SetB w u G) : Calls Tryd.prog 34 #[v, u] w fun e w' => ∃ x, e = .returned x ∧ SetB w' x (fun d => F d && !G d) ∧ Kept (fun _ => False) w w' := by
  obtain ⟨M, h1, h2⟩ := h
  obtain ⟨K, k1, k2⟩ := k
  refine (minus_any w v u M K h1 k1 h2.small k2.small).mono ?_
  rintro e w' ⟨x, rfl, hx, _, k⟩
  exact ⟨x, rfl, ⟨_, hx, h2.minus k2⟩, k⟩
theorem sameB_any (w : World) (v x : Value) {F : Int → Bool} (hm : MemD w v F) (hF : FarB F) (hs : SetB w x F) (hT : Tz w) :
    Calls Tryd.prog 35 #[v, x] w fun e w' => e = .returned (.bool true) ∧ Kept (fun _ => False) w w' := by
  obtain ⟨M, h1, h2⟩ := hs
  exact same2_any w v x F M hm hF h1 h2 hT
theorem inD_neg {t : List Int} {d : Int} (hc : CanD t) (h : d < 0) : inD t d = false := by
  unfold inD cntD
  rw [List.filter_eq_nil_iff.2 (fun x hx => by have := hc.low x hx; simp; omega)]
  rfl
theorem withinB_any (w : World) (v u : Value) {F G : Int → Bool} (b : Bool) (h : SetB w v F) (k : SetB w u G) (hb : b = true ↔ ∀ x : Nat, F (x : Int) = true → G (x : Int) = true) : Calls Tryd.prog 41 #[v, u] w fun e w' => e = .returned (.bool b) ∧ Kept (fun _ => False) w w' := by
  obtain ⟨M, h1, h2⟩ := h
  obtain ⟨K, k1, k2⟩ := k
  refine (within_any w v u M K h1 k1 h2.small k2.small).mono ?_
  rintro e w' ⟨rfl, k⟩
  refine ⟨?_, k⟩
  have : decide (anN M K = 0) = b := by
    rw [Bool.eq_iff_iff, decide_eq_true_iff, hb, (h2.minus k2).zero_iff]
    constructor
    · intro e x hx; have := e x; rw [hx] at this; simpa using this
    · intro e x; cases hf : F (x : Int) with
      | false => rfl
      | true => simp [e x hf]
  rw [this]
theorem equalB_any (w : World) (v u : Value) {F G : Int → Bool} (b : Bool) (h : SetB w v F) (k : SetB w u G) (hb : b = true ↔ ∀ x : Nat, F (x : Int) = G (x : Int)) : Calls Tryd.prog 42 #[v, u] w fun e w' => e = .returned (.bool b) ∧ Kept (fun _ => False) w w' := by
  obtain ⟨M, h1, h2⟩ := h
  obtain ⟨K, k1, k2⟩ := k
  refine (equal_any w v u M K h1 k1).mono ?_
  rintro e w' ⟨rfl, k⟩
  refine ⟨?_, k⟩
  have : decide (M = K) = b := by
    rw [Bool.eq_iff_iff, decide_eq_true_iff, hb, h2.eq_iff k2]
  rw [this]
theorem meetsB_any (w : World) (v u : Value) {F G : Int → Bool} (b : Bool) (h : SetB w v F) (k : SetB w u G) (hb : b = true ↔ ∀ x : Nat, (F (x : Int) && G (x : Int)) = false) : Calls Tryd.prog 43 #[v, u] w fun e w' => e = .returned (.bool (!b)) ∧ Kept (fun _ => False) w w' := by
  obtain ⟨M, h1, h2⟩ := h
  obtain ⟨K, k1, k2⟩ := k
  refine (meets_any w v u M K h1 k1 h2.small k2.small).mono ?_
  rintro e w' ⟨rfl, k⟩
  refine ⟨?_, k⟩
  have h0 : b = decide (M &&& K = 0) := by
    rw [Bool.eq_iff_iff, decide_eq_true_iff, hb, (h2.and k2).zero_iff]
  have : decide (M &&& K ≠ 0) = !b := by
    rw [h0]; by_cases h : M &&& K = 0 <;> simp [h]
  rw [this]
theorem dWithinB_any (w : World) (v u : Value) {F G : Int → Bool} (b : Bool) (h : MemD w v F) (k : MemD w u G) (hF : FarB F) (hG : FarB G) (hb : b = true ↔ ∀ x : Nat, F (x : Int) = true → G (x : Int) = true) : Calls Tryd.prog 28 #[v, u] w fun e w' => e = .returned (.bool b) ∧ Kept (fun _ => False) w w' := by
  obtain ⟨t, h1, h2⟩ := h
  obtain ⟨s, k1, k2⟩ := k
  have a1 := memD_all h1.can h2 hF
  have a2 := memD_all k1.can k2 hG
  refine (dayWithin_any v u t s w h1 k1).mono ?_
  rintro e w' ⟨c, rfl, hc, k⟩
  refine ⟨?_, k⟩
  have : c = b := by
    rw [Bool.eq_iff_iff, hc, hb]
    constructor
    · intro e x hx; rw [← a2 _ (by omega)]; exact e _ (by rw [a1 _ (by omega)]; exact hx)
    · intro e d hd
      by_cases h0 : d < 0
      · rw [inD_neg h1.can h0] at hd; cases hd
      · obtain ⟨x, rfl⟩ : ∃ x : Nat, d = (x : Int) := ⟨d.toNat, by omega⟩
        rw [a2 _ (by omega)]; exact e x (by rw [← a1 _ (by omega)]; exact hd)
  rw [this]
theorem dEqualB_any (w : World) (v u : Value) {F G : Int → Bool} (b : Bool) (h : MemD w v F) (k : MemD w u G) (hF : FarB F) (hG : FarB G) (hb : b = true ↔ ∀ x : Nat, F (x : Int) = G (x : Int)) : Calls Tryd.prog 15 #[v, u] w fun e w' => e = .returned (.bool b) ∧ Kept (fun _ => False) w w' := by
  obtain ⟨t, h1, h2⟩ := h
  obtain ⟨s, k1, k2⟩ := k
  have a1 := memD_all h1.can h2 hF
  have a2 := memD_all k1.can k2 hG
  refine (dayEqual_any v u t s w h1 k1).mono ?_
  rintro e w' ⟨rfl, k⟩
  refine ⟨?_, k⟩
  have : decide (t = s) = b := by
    rw [Bool.eq_iff_iff, decide_eq_true_iff, hb]
    constructor
    · rintro rfl x; rw [← a1 _ (by omega), ← a2 _ (by omega)]
    · intro e
      refine canD_unique h1.can k1.can fun d h0 _ => ?_
      obtain ⟨x, rfl⟩ : ∃ x : Nat, d = (x : Int) := ⟨d.toNat, by omega⟩
      rw [a1 _ h0, a2 _ h0, e]
  rw [this]
theorem dEmptyB_any (w : World) (v : Value) {F : Int → Bool} (b : Bool) (h : MemD w v F) (hF : FarB F) (hb : b = true ↔ ∀ x : Nat, F (x : Int) = false) : Calls Tryd.prog 14 #[v] w fun e w' => e = .returned (.bool b) ∧ Kept (fun _ => False) w w' := by
  obtain ⟨t, h1, h2⟩ := h
  have a1 := memD_all h1.can h2 hF
  refine (dayEmpty_any v t w h1).mono ?_
  rintro e w' ⟨rfl, k⟩
  refine ⟨?_, k⟩
  have : decide (t = []) = b := by
    rw [Bool.eq_iff_iff, decide_eq_true_iff, hb]
    constructor
    · rintro rfl x; rw [← a1 _ (by omega)]; rfl
    · intro e
      refine canD_unique h1.can ⟨List.Pairwise.nil, by simp, by simp, rfl⟩ fun d h0 _ => ?_
      obtain ⟨x, rfl⟩ : ∃ x : Nat, d = (x : Int) := ⟨d.toNat, by omega⟩
      rw [a1 _ h0, e]; rfl
  rw [this]
/-- What make2 gives, by the members. -/
theorem make2B_any (w0 : World) (v : Value) (l : List (Nat × Nat)) (h : RowG EU w0 v l) (hl : ∀ p ∈ l, p.1 < 65536 ∧ p.2 < 65536) :
    Calls Tryd.prog 30 #[v] w0 fun e w' => ∃ (a : Option Addr) (n c : Nat) (lo : Int) (b : Option Addr) (m kk : Nat) (F : Int → Bool), e = .returned (.tuple #[.agg #[.slice a n c], .agg #[.int .u64 lo, .slice b m kk], .bool true]) ∧ FarB F ∧ MemD w' (.agg #[.slice a n c]) F ∧ SetB w' (.agg #[.int .u64 lo, .slice b m kk]) F ∧ Kept (fun _ => False) w0 w' := by
  refine (make2_any w0 v l h hl).mono ?_
  rintro e w' ⟨a, n, c, lo, b, m, kk, M, rfl, h1, h2, h3, k⟩
  exact ⟨a, n, c, _, b, m, kk, _, rfl, spanIn_far (fit3_ok (l.take 6)), h1, ⟨M, h2, h3⟩, k⟩
end Go.Proofs.YtjglnpijngdpkaaDoor
