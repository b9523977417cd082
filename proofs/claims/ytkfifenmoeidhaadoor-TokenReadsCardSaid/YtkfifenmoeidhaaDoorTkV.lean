/-
  arbaclaw15.TokenScans returns true.
-/
import Derived.Test.YtkfifenmoeidhaaDoorTkT
import Derived.Test.YtkfifenmoeidhaaDoorTkU
namespace Go.Proofs.YtkfifenmoeidhaaDoor
open Go.RowKit Go.Shelf
set_option linter.unusedSimpArgs false
set_option linter.unusedVariables false

theorem kind_lt (s : ByteArray) : ∀ x ∈ (scanS s).1, x.k < 256 := by
  have hk : ∀ l, (firstT l).1 ≤ 3 := fun l => by
    cases l with
    | nil => exact Nat.zero_le 3
    | cons c t =>
      unfold firstT
      simp only
      repeat' split
      all_goals first | exact Nat.le_refl 3 | exact Nat.zero_le 3 | exact Nat.le_succ 2 | exact Nat.le_add_left 1 2
  have hf : ∀ (L : List Nat) (f i : Nat), ∀ x ∈ (scanF L f i).1, x.1 ≤ 3 := fun L f => by
    induction f with
    | zero => intro i x hx; simp [scanF] at hx
    | succ f ih =>
      intro i x hx
      rw [scanF] at hx
      split at hx
      · split at hx
        · simp at hx
        · simp only [List.mem_cons] at hx
          rcases hx with rfl | hx
          · exact hk _
          · exact ih _ x hx
      · simp at hx
  intro x hx
  unfold scanS at hx
  split at hx
  · simp at hx
  · split at hx
    · simp at hx
    · simp only [List.mem_append, List.mem_map, List.mem_singleton] at hx
      rcases hx with ⟨y, hy, rfl⟩ | rfl
      · have := hf _ _ _ y hy
        show y.1 < 256
        omega
      · exact Nat.zero_lt_succ 255
theorem kind_at (s : ByteArray) : ∀ i, i < (scanS s).1.length → ((scanS s).1.getD i tok0).k < 256 := fun i hi => by
  have e : (scanS s).1.getD i tok0 = (scanS s).1[i] := by simp [List.getD, hi]
  rw [e]
  exact kind_lt s _ (List.getElem_mem _)

set_option maxRecDepth 100000 in
set_option maxHeartbeats 1600000 in
theorem tscans_law (s : ByteArray) (w : World) (hS : Sym w) (hs : s.size ≤ maxLen) :
    Calls Tryd.prog 3 #[.string s] w fun e w' => e = .returned (.bool true) ∧ Kept (fun _ => False) w w' := by
  have hc := cutK_size s
  have HS := Lib.hid hS
  have HC := Lib.hid (fun W => cutk_any s W hs)
  have HK := Lib.hid (kind_at (cutK s))
  generalize cutK s = t at hc HC HK
  have H1 := Lib.hid (fun W hW => tscan_any t W (by omega) hW)
  have H2 := Lib.hid (fun W => rscan_any t W (by omega))
  obtain ⟨R, hR⟩ : ∃ R, R = scanS t := ⟨_, rfl⟩
  simp only [← hR] at H1 H2 HK
  obtain ⟨l, o, b⟩ := R
  simp only at H1 H2 HK
  clear hR hS
  have HAW := Lib.hid (awake15_any w HS.out)
  go_enter Tryd.func3, Tryd.ntmps3
  go_wp2_with fail
  refine HAW.out.mono ?_
  rintro e w1 ⟨rfl, k1⟩
  have K1 := Lib.hid k1
  clear k1
  go_wp2_with fail
  refine (HC.out _).mono ?_
  rintro e w2 ⟨rfl, rfl⟩
  go_wp2_with fail
  refine (H1.out _ (HS.out.kept K1.out (fun h => h))).mono ?_
  rintro e w3 ⟨v3, rfl, o3, k3⟩
  have T3 := Lib.hid o3.toks
  have K3 := Lib.hid (K1.out.then k3)
  clear o3 k3
  go_wp2_with fail
  refine (H2.out _).mono ?_
  rintro e w4 ⟨v4, rfl, o4, k4⟩
  have T4 := Lib.hid o4.toks
  have T34 := Lib.hid (T3.out.kept k4 (fun _ _ h => h))
  have K4 := Lib.hid (K3.out.then k4)
  clear o4 k4
  go_wp2_with fail
  refine (same_any v3 v4 l w4 T34.out T4.out HK.out).mono ?_
  rintro e w5 ⟨rfl, k5⟩
  have K5 := Lib.hid (K4.out.then k5)
  clear k5
  go_wp2_with fail
  go_ret
  exact ⟨rfl, K5.out⟩
end Go.Proofs.YtkfifenmoeidhaaDoor
