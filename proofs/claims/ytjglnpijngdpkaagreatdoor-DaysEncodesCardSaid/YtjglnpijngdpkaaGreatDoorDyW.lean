import Derived.Test.YtjglnpijngdpkaaGreatDoorGP
import Derived.Test.YtjglnpijngdpkaaGreatDoorGRow
import Derived.Test.YtjglnpijngdpkaaGreatDoorProg
import Derived.BigQuiet
import Derived.Deep.RegionHeld3
import Derived.OpenShut
/-
  Days: sets in memory; possible, inside, turn, All.
-/
namespace Go.Proofs.YtjglnpijngdpkaaGreatDoor
open Go.RowKit
set_option linter.unusedSimpArgs false
set_option linter.unusedVariables false
set_option maxRecDepth 100000

/-- Numbers in memory. -/
def EI : REnc Int := ⟨fun x => [.int .i64 x], 1, 0, fun _ => rfl, fun x v h => by simp at h; subst h; rfl, by omega⟩
theorem atEI {w : World} {g o : Nat} {x : Int} (h : AtG EI w g o x) : w.cell? ⟨g, o, none⟩ = some (.int .i64 x) := h 0 _ rfl
/-- A set of days in memory. -/
def SetD (w : World) (v : Value) (t : List Int) : Prop := ∃ row, v = .agg #[row] ∧ RowG EI w row t ∧ CanD t
theorem SetD.on {a b : World} {v : Value} {t : List Int} (h : SetD a v t) (hk : Kept (fun _ => False) a b) : SetD b v t := by
  obtain ⟨row, h1, h2, h3⟩ := h
  exact ⟨row, h1, h2.on hk, h3⟩
theorem SetD.can {w : World} {v : Value} {t : List Int} (h : SetD w v t) : CanD t := by obtain ⟨_, _, _, h⟩ := h; exact h

theorem possD_any (d : Int) (w : World) : Calls Tryz.prog 49 #[.int .i64 d] w fun e w' => e = .returned (.bool (decide (0 ≤ d) && decide (d ≤ 30000))) ∧ w = w' := by
  go_enter Tryz.func49, Tryz.ntmps49
  by_cases h0 : 0 ≤ d
  · by_cases h1 : d ≤ 30000
    · rw [decide_eq_true h0, decide_eq_true h1]
      go_wp2_with fail
      go_ret
      exact ⟨rfl, rfl⟩
    · rw [decide_eq_true h0, decide_eq_false h1]
      go_wp2_with fail
      go_ret
      exact ⟨rfl, rfl⟩
  · rw [decide_eq_false h0]
    go_wp2_with fail
    go_ret
    exact ⟨rfl, rfl⟩

theorem insideD_any (n : Nat) (w : World) : Calls Tryz.prog 59 #[.int .i64 (n : Int)] w fun e w' => e = .returned (.bool (oddD n)) ∧ w = w' := by
  obtain ⟨b, hb⟩ : ∃ b, b = oddD n := ⟨_, rfl⟩
  rw [← hb]
  unfold oddD at hb
  by_cases h : n % 2 = 1
  · rw [decide_eq_true h] at hb
    subst hb
    have h1 : (n : Int).tmod 2 = 1 := by rw [Int.tmod_eq_emod_of_nonneg (by omega)]; omega
    have h2 : (n : Int) % 2 = 1 := by omega
    clear h
    go_enter Tryz.func59, Tryz.ntmps59
    go_wp2_with fail
    go_ret
    exact ⟨rfl, rfl⟩
  · rw [decide_eq_false h] at hb
    subst hb
    have h1 : (n : Int).tmod 2 = 0 := by rw [Int.tmod_eq_emod_of_nonneg (by omega)]; omega
    have h2 : (n : Int) % 2 = 0 := by omega
    clear h
    go_enter Tryz.func59, Tryz.ntmps59
    go_wp2_with fail
    go_ret
    exact ⟨rfl, rfl⟩

set_option maxHeartbeats 1600000 in
theorem turnD_any (v : Value) (t : List Int) (i : Nat) (w : World) (h : SetD w v t) :
    Calls Tryz.prog 100 #[v, .int .i64 (i : Int)] w fun e w' => e = .returned (.int .i64 (turnD t i)) ∧ Kept (fun _ => False) w w' := by
  obtain ⟨row, rfl, hr, _⟩ := h
  obtain ⟨a, c, rfl, h1, h2⟩ := hr.form
  unfold maxLen at h2
  have HK := Lib.hid (Kept.alloc (fun _ => False) w (.cells #[.slice a t.length c] 26))
  have HR := Lib.hid (hr.on HK.out)
  obtain ⟨x, hx⟩ : ∃ x, x = turnD t i := ⟨_, rfl⟩
  rw [← hx]
  have HX := Lib.hid hx
  clear hr hx
  go_enter Tryz.func100, Tryz.ntmps100
  by_cases hlt : i < t.length
  · have l1 : (i : Int) < (t.length : Int) := by omega
    have l0 : (0 : Int) ≤ (i : Int) := by omega
    obtain ⟨g, off, rfl, hg, hc⟩ := HR.out.at (k := i) hlt
    have hz : EI.z = 1 := rfl
    rw [hz, Nat.mul_one] at hc
    have c0 := atEI hc
    have hd : t.getD i EI.d = x := by rw [HX.out]; unfold turnD; simp [List.getD, hlt]
    rw [hd] at c0
    clear hc hg hd hz
    go_wp2_with fail
    go_ret
    exact ⟨rfl, HK.out⟩
  · have l1 : ¬ (i : Int) < (t.length : Int) := by omega
    have e : x = 30002 := by rw [HX.out, turnD_end (by omega)]
    subst e
    go_wp2_with fail
    go_ret
    exact ⟨rfl, HK.out⟩

/-- A result that is a set. -/
theorem setD_ret {w : World} {a : Option Addr} {c : Nat} {t : List Int} {B : Nat} (h : OwnG EI 3 B w (.slice a t.length c) t) (hc : CanD t) : SetD w (.agg #[.slice a t.length c]) t := ⟨_, rfl, h.row, hc⟩

set_option maxHeartbeats 1600000 in
theorem allD_any (w : World) : Calls Tryz.prog 32 #[] w fun e w' => ∃ v, e = .returned v ∧ SetD w' v allD ∧ Kept (fun _ => False) w w' := by
  have HN : Hid (∀ W : World, RowG EI (W.alloc (.cells #[.int .i64 0, .int .i64 30001] 3)) (.slice (some ⟨W.heap.size, 0, none⟩) 2 2) allD) := Lib.hid fun W => RowG.new W #[.int .i64 0, .int .i64 30001] 3 2 allD rfl rfl (by unfold maxLen; omega)
  go_enter Tryz.func32, Tryz.ntmps32
  go_wp2_with fail
  refine bodyPost_ret (v := .agg #[.slice (some ⟨w.heap.size + 1, 0, none⟩) 2 2]) (by simp [results, Tryz.results32, go_sem]) rfl ⟨_, rfl, ⟨_, rfl, ?_, allD_can⟩, (Kept.alloc _ _ _).then (Kept.alloc _ _ _)⟩
  have := HN.out (w.alloc (.cells #[.slice (some ⟨w.heap.size + 1, 0, none⟩) 2 2] 26))
  rw [show (w.alloc (.cells #[.slice (some ⟨w.heap.size + 1, 0, none⟩) 2 2] 26)).heap.size = w.heap.size + 1 by simp] at this
  exact this
end Go.Proofs.YtjglnpijngdpkaaGreatDoor
