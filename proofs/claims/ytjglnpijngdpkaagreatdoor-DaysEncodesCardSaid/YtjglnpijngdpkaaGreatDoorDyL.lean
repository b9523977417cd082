import Derived.Test.YtjglnpijngdpkaaGreatDoorDyRo
/-
  Days: the law's few and spans.
-/
namespace Go.Proofs.YtjglnpijngdpkaaGreatDoor
open Go.RowKit Go.Shelf
set_option linter.unusedSimpArgs false
set_option linter.unusedVariables false
set_option maxRecDepth 100000

/-- The front of a row. -/
theorem RowG.front {α : Type} {E : REnc α} {w : World} {a : Option Addr} {n c m : Nat} {l : List α} (h : RowG E w (.slice a n c) l) (hm : m ≤ l.length) : RowG E w (.slice a m c) (l.take m) := by
  rcases h with ⟨h, rfl⟩ | ⟨g, off, cap, h, h1, h2, h3, h4⟩
  · cases h
    obtain rfl : m = 0 := by simpa using hm
    exact Or.inl ⟨rfl, rfl⟩
  · cases h
    have hl : (l.take m).length = m := by rw [List.length_take]; omega
    refine Or.inr ⟨g, off, c, by rw [hl], by rw [hl]; omega, h2, h3, fun i hi => ?_⟩
    rw [hl] at hi
    have e : (l.take m).getD i E.d = l.getD i E.d := by simp only [List.getD, List.getElem?_take]; rw [if_pos hi]
    rw [e]
    exact h4 i (by omega)

set_option maxHeartbeats 1600000 in
theorem spansL_any (w0 : World) (v : Value) (l : List (Int × Int)) (h : RowG ESp w0 v l) (hl : l.length ≤ 100000) :
    Calls Tryz.prog 27 #[v] w0 fun e w' => ∃ u, e = .returned u ∧ OwnG ESp 49 w0.heap.size w' u l ∧ Kept (fun _ => False) w0 w' := by
  obtain ⟨la, lc, rfl, h1, h2⟩ := h.form
  have HV := Lib.hid h
  obtain ⟨N, hN⟩ : ∃ N, N = l.length := ⟨_, rfl⟩
  rw [← hN] at HV hl h1 ⊢
  have HN := Lib.hid hN
  unfold maxLen at h2
  clear h hN
  go_enter Tryz.func27, Tryz.ntmps27
  go_wp2_with fail
  go_loopw [3, 5, 8] (fun tv _ iv wr => ∃ (k : Nat) (a : Option Addr) (c : Nat) (acc : List (Int × Int)), k ≤ N ∧ iv = .int .i64 (k : Int) ∧ tv = .slice a acc.length c ∧ Hid (OwnG ESp 49 w0.heap.size wr (.slice a acc.length c) acc ∧ acc = l.take k ∧ Kept (fun _ => False) w0 wr)) (fun _ _ iv _ => N - (intOf iv).toNat)
  case atStart => exact ⟨0, none, 0, [], Nat.zero_le _, rfl, rfl, Lib.hid ⟨OwnG.nil _ _ _, rfl, Kept.refl _ _⟩⟩
  case round =>
    obtain ⟨k, a, c, acc, hk, rfl, rfl, hI⟩ := hrel
    by_cases hlt : k < N
    · have l1 : (k : Int) < (N : Int) := by omega
      have l0 : (0 : Int) ≤ (k : Int) := by omega
      have hkl : k < l.length := by have := HN.out; omega
      obtain ⟨g, off, rfl, hg, hc⟩ := (HV.out.on hI.out.2.2).at (k := k) hkl
      have htk : l.take (k + 1) = l.take k ++ [l.getD k (0, 0)] := by rw [List.take_add_one]; simp [List.getD, hkl]
      change AtG ESp wr g (off + k * 2) (l.getD k (0, 0)) at hc
      generalize l.getD k (0, 0) = p at hc htk
      obtain ⟨pf, pt⟩ := p
      obtain ⟨c0, c1⟩ := atESp hc
      simp only at c0 c1
      have hka : Kept (fun _ => False) wr (wr.alloc (.cells #[.int .i64 pf, .int .i64 pt] 62)) := Kept.alloc _ _ _
      have HKW := Lib.hid (hI.out.2.2.then hka)
      have HBX : Hid ((wr.alloc (.cells #[.int .i64 pf, .int .i64 pt] 62)).cell? ⟨wr.heap.size, 0, none⟩ = some (.int .i64 pf) ∧ (wr.alloc (.cells #[.int .i64 pf, .int .i64 pt] 62)).cell? ⟨wr.heap.size, 1, none⟩ = some (.int .i64 pt)) := Lib.hid ⟨by go_simp, by go_simp⟩
      have HRW := Lib.hid (hI.out.1.on hka)
      have HLT : Hid (∀ j, (Value.slice a acc.length c).ownBlock = some j → w0.heap.size ≤ j) := Lib.hid fun j hj => (hI.out.1.lt j hj).1
      have HAL : Hid (acc.length ≤ 100000) := Lib.hid (by rw [hI.out.2.1, List.length_take]; omega)
      have HAC : Hid (acc ++ [(pf, pt)] = l.take (k + 1)) := Lib.hid (by rw [htk, hI.out.2.1])
      clear hc hg hka hI htk
      have HY : Hid (RowG ESp ((wr.alloc (.cells #[.int .i64 pf, .int .i64 pt] 62)).alloc (.cells #[.int .i64 pf, .int .i64 pt] 49)) (.slice (some ⟨wr.heap.size + 1, 0, none⟩) 1 1) [(pf, pt)]) := Lib.hid (by
        have h9 : RowG ESp ((wr.alloc (.cells #[.int .i64 pf, .int .i64 pt] 62)).alloc (.cells #[.int .i64 pf, .int .i64 pt] 49)) _ [(pf, pt)] := RowG.new _ #[.int .i64 pf, .int .i64 pt] 49 1 [(pf, pt)] rfl rfl (by unfold maxLen; omega)
        rw [show (wr.alloc (.cells #[.int .i64 pf, .int .i64 pt] 62)).heap.size = wr.heap.size + 1 by simp] at h9
        exact h9)
      go_wp2_with (first
        | (at_builtin; refine wpList_pushG Tryz.underlying46 info_span rfl (by omega) (by simp [Region.wanted, yielded]) _ _ rfl rfl w0.heap.size _ _ acc [(pf, pt)] rfl rfl (HRW.out.alloc _) HY.out (by have := HAL.out; simp; omega) (by have := HKW.out.size; simp at *; omega) ?_; intro a' c' w4 hown4 hk4 hat4; have HOWN4 := Lib.hid hown4; have HKK4 := Lib.hid hk4; clear hown4 hk4 hat4)
        | fail)
      have HI2 : Hid (OwnG ESp 49 w0.heap.size w4 (.slice a' (acc ++ [(pf, pt)]).length c') (acc ++ [(pf, pt)]) ∧ acc ++ [(pf, pt)] = l.take (k + 1) ∧ Kept (fun _ => False) w0 w4) := Lib.hid ⟨HOWN4.out, HAC.out, (HKW.out.then (Kept.alloc _ _ _)).trans HKK4.out (fun _ _ h => h) (fun i hi e => by have := HLT.out i e; omega)⟩
      go_roundw
      case rel => exact ⟨k + 1, a', c', acc ++ [(pf, pt)], by omega, by go_num, by first | rfl | (rw [List.length_append]; rfl), HI2⟩
      case measure => simp [intOf]; omega
    · obtain rfl : k = N := by omega
      have he : acc = l := by rw [hI.out.2.1]; exact List.take_of_length_le (by rw [← HN.out]; exact Nat.le_refl _)
      have HE := Lib.hid he
      clear he
      go_wp2_with fail
      go_ret
      refine ⟨_, rfl, ?_, hI.out.2.2⟩
      have h5 := hI.out.1
      rw [HE.out] at h5
      first | exact h5 | (rw [HE.out]; exact h5)
end Go.Proofs.YtjglnpijngdpkaaGreatDoor
