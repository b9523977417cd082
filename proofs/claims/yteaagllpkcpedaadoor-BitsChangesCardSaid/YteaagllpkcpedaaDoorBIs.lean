/-
  arbaclaw01: few, is; Len of any set.
-/
import Derived.Test.YteaagllpkcpedaaDoorBRw
import Derived.Test.YteaagllpkcpedaaDoorBList
import Derived.Test.YteaagllpkcpedaaDoorBPop
import Derived.Test.YteaagllpkcpedaaDoorBEq
import Derived.Test.YteaagllpkcpedaaDoorBCo
namespace Go.Proofs.YteaagllpkcpedaaDoor
open Go.RowKit

theorem len_set (w : World) (v : Value) (M : Nat) (h : SetV w v M) (hS : Small M) :
    Calls Tryd.prog 37 #[v] w fun e w' => e = .returned (.int .i64 (memM M 4096).length) ∧ Kept (fun _ => False) w w' := by
  obtain ⟨hv, hs, rfl, hw, hc, -⟩ := h.ex
  have hsm := hc.small hS
  have := len_any w _ M _ hs rfl hw hc hsm
  rw [lenS_mem hc hsm] at this
  exact this

set_option maxRecDepth 100000 in
set_option maxHeartbeats 800000 in
theorem few_any (w : World) (v : Value) (xs : List Int) (h : Ints w v xs) :
    Calls Tryd.prog 10 #[v] w fun e w' => ∃ u, e = .returned u ∧ Ints w u (xs.take 60) ∧ w = w' := by
  have hl : xs.length ≤ 9223372036854775807 := by
    rcases h with ⟨_, rfl⟩ | ⟨_, _, _, _, h1, h2, _⟩
    · simp
    · unfold maxLen at h2; omega
  rcases h with ⟨rfl, rfl⟩ | ⟨g, off, cap, rfl, h1, h2, h3, h4⟩
  · go_enter Tryd.func10, Tryd.ntmps10
    go_wp2_with fail
    go_ret
    exact ⟨_, rfl, Or.inl ⟨by simp <;> omega, rfl⟩, rfl⟩
  · obtain ⟨m, hm⟩ : ∃ m, m = min xs.length 60 := ⟨_, rfl⟩
    have hmi : min (xs.length : Int) 60 = (m : Int) := by omega
    have hmc : (m : Int) ≤ (cap : Int) := by omega
    have hm0 : (0 : Int) ≤ (m : Int) := by omega
    have HM := Lib.hid hm; clear hm
    have H1 := Lib.hid h1; have H2 := Lib.hid h2; have H4 := Lib.hid h4
    clear h1 h2 h4
    go_enter Tryd.func10, Tryd.ntmps10
    go_wp2_with fail
    go_ret
    have hlen : (xs.take 60).length = m := by rw [HM.out]; simp; omega
    refine ⟨_, rfl, Or.inr ⟨g, off, cap, by rw [hlen]; rfl, by have := H1.out; have := HM.out; omega, H2.out, h3, fun i hi => ?_⟩, rfl⟩
    rw [hlen] at hi
    rw [H4.out i (by have := HM.out; omega)]
    have : i < 60 := by have := HM.out; omega
    simp [List.getD, this]

set_option maxRecDepth 100000 in
set_option maxHeartbeats 800000 in
theorem is_any (w : World) (v u : Value) (M : Nat) (h : SetV w v M) (hS : Small M) (hu : Ints w u (memM M 4096)) (hT : Tz w) :
    Calls Tryd.prog 11 #[v, u] w fun e w' => e = .returned (.bool true) ∧ Kept (fun _ => False) w w' := by
  have hset := h
  obtain ⟨hv, hs, rfl, hw, _, _⟩ := h.ex
  obtain ⟨a, c, rfl⟩ := hw.form
  have HS := Lib.hid hset; have HSM := Lib.hid hS; have HU := Lib.hid hu; have HT := Lib.hid hT
  obtain ⟨a2, c2, rfl⟩ := hu.form
  obtain ⟨X, hX⟩ : ∃ X, X = memM M 4096 := ⟨_, rfl⟩
  rw [← hX] at HU ⊢
  have HX := Lib.hid hX
  have hXl : X.length ≤ 4096 := by rw [hX]; exact memM_le _ _
  clear h hset hw hS hu hT hX
  generalize hs.length = n at *
  obtain ⟨lo, hlo⟩ : ∃ lo, lo = M % 2 ^ 64 := ⟨_, rfl⟩
  rw [← hlo] at HS ⊢
  clear hlo
  go_enter Tryd.func11, Tryd.ntmps11
  have KA := Lib.hid (Kept.alloc (fun _ => False) w (.cells #[.int .u64 lo, .slice a n c] 28))
  have HB : Hid (∀ W, Kept (fun _ => False) (w.alloc (.cells #[.int .u64 lo, .slice a n c] 28)) W → W.cell? ⟨w.heap.size, 0, none⟩ = some (.int .u64 (lo : Int)) ∧ W.cell? ⟨w.heap.size, 1, none⟩ = some (.slice a n c)) := fun W hk => ⟨(box_cells hk (fun h => h)).1, (box_cells hk (fun h => h)).2.1⟩
  go_wp2_with fail
  refine (list_any _ _ M (HS.out.onC KA.out) HSM.out (HT.out.kept KA.out (fun h => h))).mono ?_
  rintro e w1 ⟨u1, rfl, ho1, -, k1⟩
  have HO1 : Hid (Ints w1 u1 X) := by show Ints _ _ _; rw [HX.out]; exact Ints.ofOwns ho1
  have KB := Lib.hid k1
  have K1 := Lib.hid (KA.out.then k1)
  obtain ⟨a1, c1, rfl⟩ := HO1.out.form
  clear ho1 k1
  go_wp2_with fail
  refine (equali_any _ _ _ X X HO1.out (HU.out.kept K1.out (fun _ _ h => h))).mono ?_
  rintro e w2 ⟨rfl, k2⟩
  have K2 := Lib.hid (K1.out.then k2)
  obtain ⟨b0, b1⟩ := HB.out _ (KB.out.then k2)
  clear k2
  simp only [decide_true]
  go_wp2_with fail
  refine (len_set _ _ M (HS.out.onC K2.out) HSM.out).mono ?_
  rintro e w3 ⟨rfl, k3⟩
  rw [← HX.out]
  have K3 := Lib.hid (K2.out.then k3)
  clear k3
  go_wp2_with fail
  go_ret
  exact ⟨by simp, K3.out⟩
end Go.Proofs.YteaagllpkcpedaaDoor
