/-
  arbaclaw01: few, is; Len of any set.
-/
import Derived.Test.YtcdddecggfaajaaGreatDoorBRw
import Derived.Test.YtcdddecggfaajaaGreatDoorBList
import Derived.Test.YtcdddecggfaajaaGreatDoorBPop
import Derived.Test.YtcdddecggfaajaaGreatDoorBEq
import Derived.Test.YtcdddecggfaajaaGreatDoorBCo
namespace Go.Proofs.YtcdddecggfaajaaGreatDoor
open Go.RowKit

theorem len_set (w : World) (v : Value) (M : Nat) (h : SetV w v M) (hS : Small M) :
    Calls Tryz.prog 11 #[v] w fun e w' => e = .returned (.int .i64 (memS M 4096).length) ∧ Kept (fun _ => False) w w' := by
  obtain ⟨hv, hs, rfl, hw, hc, -⟩ := h.ex
  have hsm := hc.small hS
  have := len_any w _ M _ hs rfl hw hc hsm
  rw [lenS_mem hc hsm] at this
  exact this

set_option maxRecDepth 100000 in
set_option maxHeartbeats 800000 in
theorem few_any (w : World) (v : Value) (xs : List Int) (h : Ints w v xs) :
    Calls Tryz.prog 6 #[v] w fun e w' => ∃ u, e = .returned u ∧ Ints w u (xs.take 60) ∧ w = w' := by
  have hl : xs.length ≤ 9223372036854775807 := by
    rcases h with ⟨_, rfl⟩ | ⟨_, _, _, _, h1, h2, _⟩
    · simp
    · unfold maxLen at h2; omega
  rcases h with ⟨rfl, rfl⟩ | ⟨g, off, cap, rfl, h1, h2, h3, h4⟩
  · go_enter Tryz.func6, Tryz.ntmps6
    go_wp2_with fail
    go_ret
    exact ⟨_, rfl, Or.inl ⟨by simp <;> omega, rfl⟩, rfl⟩
  · obtain ⟨m, hm⟩ : ∃ m, m = min xs.length 60 := ⟨_, rfl⟩
    have hmi : min (xs.length : Int) 60 = (m : Int) := by omega
    have hmc : (m : Int) ≤ (cap : Int) := by omega
    have hm0 : (0 : Int) ≤ (m : Int) := by omega
    have HM := Lib.hid hm; clear hm
    have H1 := Lib.hid h1; have H2 := Lib.hid h2; have H4 := Lib.hid h4
    clear h1 h2 h4
    go_enter Tryz.func6, Tryz.ntmps6
    go_wp2_with fail
    go_ret
    have hlen : (xs.take 60).length = m := by rw [HM.out]; simp; omega
    refine ⟨_, rfl, Or.inr ⟨g, off, cap, by rw [hlen]; rfl, by have := H1.out; have := HM.out; omega, H2.out, h3, fun i hi => ?_⟩, rfl⟩
    rw [hlen] at hi
    rw [H4.out i (by have := HM.out; omega)]
    have : i < 60 := by have := HM.out; omega
    simp [List.getD, this]

end Go.Proofs.YtcdddecggfaajaaGreatDoor
