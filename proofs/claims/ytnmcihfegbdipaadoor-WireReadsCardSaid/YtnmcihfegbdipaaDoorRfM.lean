/-
  arbacref02.Members: the members that bytes stand for.
-/
import Derived.Test.YtnmcihfegbdipaaDoorBRw
import Derived.Test.YtnmcihfegbdipaaDoorBRn
import Derived.Test.YtnmcihfegbdipaaDoorAppR8
namespace Go.Proofs.YtnmcihfegbdipaaDoor
open Go.RowKit
set_option linter.unusedVariables false

theorem Reads.at2 {w : World} {a : Option Addr} {n c : Nat} {xs : List Nat} (h : Reads w (.slice a n c) xs) : ∀ k, k < xs.length → ∃ g off, a = some ⟨g, off, none⟩ ∧ ∀ W, Kept (fun _ => False) w W → W.cell? ⟨g, off + k, none⟩ = some (.int .u8 (xs.getD k 0 : Nat)) := by
  intro k hk
  rcases h with ⟨_, rfl⟩ | ⟨g, off, cap, e, _, _, h3, h4⟩
  · simp at hk
  · cases e
    exact ⟨g, off, rfl, fun W hkw => (hkw.cell (p := ⟨g, off + k, none⟩) h3 (fun h => h)).trans (h4 k hk)⟩

set_option maxRecDepth 100000 in
set_option maxHeartbeats 3200000 in
theorem rmemb_any (w : World) (v : Value) (xs : List Nat) (h : Reads w v xs) (hby : ∀ b ∈ xs, b < 256) (hl : xs.length ≤ 512) :
    Calls Tryd.prog 95 #[v] w fun e w' => ∃ u, e = .returned u ∧ OwnI w' w.heap.size u (memS (numLE xs) 4096) ∧ Kept (fun _ => False) w w' := by
  obtain ⟨a, c, rfl⟩ := h.formR8
  have HC := Lib.hid h.at2
  have HBY : Hid (∀ k, k < xs.length → xs.getD k 0 < 256) := fun k hk => by
    rw [List.getD_eq_getElem?_getD, List.getElem?_eq_getElem hk]
    exact hby _ (List.getElem_mem _)
  have HBIT : Hid (∀ i k, i < xs.length → k < 8 → (numLE xs).testBit (8 * i + k) = decide (xs.getD i 0 / 2 ^ k % 2 = 1)) := fun i k hi hk => numLE_testBit xs hby i k hi hk
  have HEND := Lib.hid (memS_numLE xs hby hl)
  obtain ⟨L, hL⟩ : ∃ L, L = xs.length := ⟨_, rfl⟩
  rw [← hL] at HC HBY HBIT HEND hl ⊢
  have hLw : 8 * (L : Int) = ((8 * L : Nat) : Int) ∧ 8 * L ≤ 4096 := ⟨by omega, by omega⟩
  obtain ⟨M, hM⟩ : ∃ M, M = 8 * L := ⟨_, rfl⟩
  rw [← hM] at hLw HEND
  obtain ⟨hL2, hL1⟩ := hLw
  have hL3 : wrap64 (M : Int) = (M : Int) := IntWalk.wrap64_in _ (by omega)
  have HM := Lib.hid hM
  have HLL := Lib.hid hl
  generalize numLE xs = N at HBIT HEND ⊢
  clear h hby hL hM hl
  go_enter Tryd.func95, Tryd.ntmps95
  go_wp2_with fail
  go_loopw [3, 4] (fun ov kv wr => ∃ (k : Nat), k ≤ M ∧ kv = .int .i64 k ∧ Hid (OwnI wr w.heap.size ov (memS N k)) ∧ Hid (Kept (fun _ => False) w wr)) (fun _ kv _ => M - (intOf kv).toNat)
  case atStart => exact ⟨0, Nat.zero_le _, rfl, OwnI.nil _ _, Kept.refl _ _⟩
  case round =>
    obtain ⟨k, hk, rfl, ho, hkw⟩ := hrel
    by_cases hlt : k < M
    · have hlt' : (k : Int) < (M : Int) := by omega
      obtain ⟨i, hi⟩ : ∃ i, i = k / 8 := ⟨_, rfl⟩
      obtain ⟨j, hj⟩ : ∃ j, j = k % 8 := ⟨_, rfl⟩
      have hiL : i < L := by have := HM.out; omega
      have hj8 : j < 8 := by omega
      have hk4 : k < 4096 := by have := HM.out; have := HLL.out; omega
      obtain ⟨g, off, rfl, hck⟩ := HC.out i hiL
      obtain ⟨b, hb⟩ : ∃ b, b = xs.getD i 0 := ⟨_, rfl⟩
      have hb256 : b < 256 := by rw [hb]; exact HBY.out i hiL
      have hbit : N.testBit k = decide (b / 2 ^ j % 2 = 1) := by
        rw [hb, ← HBIT.out i j hiL hj8]; congr 1; omega
      rw [← hb] at hck
      have ck := hck wr hkw.out
      obtain ⟨s, hs⟩ : ∃ s, s = b / 2 ^ j := ⟨_, rfl⟩
      rw [← hs] at hbit
      have hsb : s ≤ 255 := by rw [hs]; exact Nat.le_trans (Nat.div_le_self _ _) (by omega)
      have hfd : (b : Int) / 2 ^ j = (s : Int) := by rw [hs]; simp
      have hml : (memS N k).length ≤ 900000 := Nat.le_trans (memS_le _ _) (by omega)
      have HB := Lib.hid hml
      have hr01 : s % 2 = 1 ∨ s % 2 = 0 := by omega
      obtain ⟨q1, q2, q3, q4, q5, q6, q7, q8, q9⟩ : (k : Int).tdiv 8 = (i : Int) ∧ (k : Int) / 8 = (i : Int) ∧ (k : Int).tmod 8 = (j : Int) ∧ (k : Int) % 8 = (j : Int) ∧ (0 : Int) ≤ (i : Int) ∧ (i : Int) < (L : Int) ∧ min j 8 = j ∧ (0 : Int) ≤ (j : Int) ∧ ¬ (j : Int) < 0 :=
        ⟨by rw [Int.tdiv_eq_ediv_of_nonneg (by omega)]; omega, by omega, by rw [Int.tmod_eq_emod_of_nonneg (by omega)]; omega, by omega, by omega, by omega, by omega, by omega, by omega⟩
      have HJ := Lib.hid hj; have HI := Lib.hid hi
      clear hj hi hb hs hck hml hj8 hiL
      rcases hr01 with hr | hr
      · obtain ⟨e1, e2⟩ : (s : Int).tmod 2 = 1 ∧ (s : Int) % 2 = 1 := ⟨by rw [Int.tmod_eq_emod_of_nonneg (by omega)]; omega, by omega⟩
        have HS : Hid (memS N (k + 1) = memS N k ++ [(k : Int)]) := by
          show _ = _
          rw [memS_yes (by rw [hbit, hr]; rfl)]
        clear hbit hr
        go_wp2_with (at_builtin; refine wpList_push (by rfl) _ _ rfl rfl w.heap.size _ _ wr.heap.size (k : Int) rfl rfl (ho.out.alloc _) (by go_simp) (HB.out) (by have := hkw.out.size; simp; omega) ?_)
        intro v' w3 hown' hgrow3
        have HO : Hid (OwnI w3 w.heap.size v' (memS N (k + 1))) := by
          show OwnI _ _ _ _
          rw [HS.out]; exact hown'
        have HK3 : Hid (Kept (fun _ => False) w w3) := (hkw.out.then (Kept.alloc _ _ _)).trans hgrow3 (fun _ _ h => h) (fun i hi e => by have := ho.out.lt i e; omega)
        clear hgrow3 hown'
        go_wp2
        go_roundw
        case rel => exact ⟨k + 1, by omega, by go_num, HO, HK3⟩
        case measure => simp [intOf]; omega
      · obtain ⟨e1, e2⟩ : (s : Int).tmod 2 = 0 ∧ (s : Int) % 2 = 0 := ⟨by rw [Int.tmod_eq_emod_of_nonneg (by omega)]; omega, by omega⟩
        have HS : Hid (memS N (k + 1) = memS N k) := by
          show _ = _
          rw [memS_no (by rw [hbit, hr]; rfl)]
        clear hbit hr
        go_wp2_with fail
        go_roundw
        case rel => exact ⟨k + 1, by omega, by go_num, by show OwnI _ _ _ _; rw [HS.out]; exact ho.out, hkw⟩
        case measure => simp [intOf]; omega
    · have hkx : k = M := by omega
      have ho2 := ho.out
      rw [hkx, HEND.out] at ho2
      have HO := Lib.hid ho2
      have hnl : ¬ (k : Int) < (M : Int) := by omega
      clear hkx ho ho2
      go_wp2_with fail
      go_ret
      exact ⟨_, rfl, HO.out, hkw.out⟩
end Go.Proofs.YtnmcihfegbdipaaDoor
