import Derived.Test.YtjglnpijngdpkaaGreatDoorDyRs
/-
  Days: the law's Fit.
-/
namespace Go.Proofs.YtjglnpijngdpkaaGreatDoor
open Go.RowKit Go.Shelf
set_option linter.unusedSimpArgs false
set_option linter.unusedVariables false
set_option maxRecDepth 100000

/-- Pairs of small numbers in memory. -/
def EU : REnc (Nat × Nat) := ⟨fun p => [.int .u16 (p.1 : Int), .int .u16 (p.2 : Int)], 2, (0, 0), fun _ => rfl, fun x v h => by simp at h; rcases h with rfl | rfl <;> rfl, by omega⟩
theorem atEU {w : World} {g o : Nat} {p : Nat × Nat} (h : AtG EU w g o p) : w.cell? ⟨g, o, none⟩ = some (.int .u16 (p.1 : Int)) ∧ w.cell? ⟨g, o + 1, none⟩ = some (.int .u16 (p.2 : Int)) := ⟨h 0 _ rfl, h 1 _ rfl⟩
def fit1 (p : Nat × Nat) : Int × Int := (((min (p.1 % 30001) (p.2 % 30001) : Nat) : Int), ((max (p.1 % 30001) (p.2 % 30001) : Nat) : Int))
/-- The spans that raw pairs give. -/
def fitD (l : List (Nat × Nat)) : List (Int × Int) := (l.take 6).map fit1
theorem fitD_ok (l : List (Nat × Nat)) : ∀ p ∈ fitD l, okSp p := by
  intro p hp
  unfold fitD at hp
  obtain ⟨x, _, rfl⟩ := List.mem_map.1 hp
  have h1 := Nat.mod_lt x.1 (show 0 < 30001 by omega)
  have h2 := Nat.mod_lt x.2 (show 0 < 30001 by omega)
  unfold fit1 okSp
  simp only []
  omega
theorem fitD_len (l : List (Nat × Nat)) : (fitD l).length ≤ 6 := by unfold fitD; rw [List.length_map, List.length_take]; omega

set_option maxHeartbeats 1600000 in
theorem fitD_any (w0 : World) (v : Value) (l : List (Nat × Nat)) (h : RowG EU w0 v l) (hl : ∀ p ∈ l, p.1 < 65536 ∧ p.2 < 65536) :
    Calls Tryz.prog 30 #[v] w0 fun e w' => ∃ u, e = .returned u ∧ OwnG ESp 62 w0.heap.size w' u (fitD l) ∧ Kept (fun _ => False) w0 w' := by
  obtain ⟨la, lc, rfl, h1, h2⟩ := h.form
  have HV := Lib.hid h
  obtain ⟨N, hN⟩ : ∃ N, N = l.length := ⟨_, rfl⟩
  rw [← hN] at HV h1 ⊢
  have HN := Lib.hid hN; have HB := Lib.hid hl
  unfold maxLen at h2
  clear h hN hl
  go_enter Tryz.func30, Tryz.ntmps30
  go_wp2_with fail
  go_loopw [3, 4, 5, 6] (fun tv iv _ _ wr => ∃ (k : Nat) (a : Option Addr) (c : Nat) (acc : List (Int × Int)), k ≤ N ∧ k ≤ 6 ∧ iv = .int .i64 (k : Int) ∧ tv = .slice a acc.length c ∧ Hid (OwnG ESp 62 w0.heap.size wr (.slice a acc.length c) acc ∧ acc = (l.take k).map fit1 ∧ Kept (fun _ => False) w0 wr)) (fun _ iv _ _ _ => 7 - (intOf iv).toNat)
  case atStart => exact ⟨0, none, 0, [], Nat.zero_le _, by omega, rfl, rfl, Lib.hid ⟨OwnG.nil _ _ _, rfl, Kept.refl _ _⟩⟩
  case round =>
    obtain ⟨k, a, c, acc, hk, hk6, rfl, rfl, hI⟩ := hrel
    by_cases hlt : k < N
    · have l1 : (k : Int) < (N : Int) := by omega
      have l0 : (0 : Int) ≤ (k : Int) := by omega
      by_cases hl6 : k < 6
      · have l6 : (k : Int) < 6 := by omega
        have hkl : k < l.length := by have := HN.out; omega
        obtain ⟨g, off, rfl, hg, hc⟩ := (HV.out.on hI.out.2.2).at (k := k) hkl
        have htk : l.take (k + 1) = l.take k ++ [l.getD k (0, 0)] := by rw [List.take_add_one]; simp [List.getD, hkl]
        have hpb := HB.out (l.getD k (0, 0)) (by simp [List.getD, hkl])
        change AtG EU wr g (off + k * 2) (l.getD k (0, 0)) at hc
        generalize l.getD k (0, 0) = p at hc htk hpb
        obtain ⟨x, y⟩ := p
        obtain ⟨c0, c1⟩ := atEU hc
        simp only at c0 c1 hpb
        obtain ⟨b1, b2⟩ := hpb
        obtain ⟨u, hu⟩ : ∃ u, u = x % 30001 := ⟨_, rfl⟩
        obtain ⟨v, hv⟩ : ∃ v, v = y % 30001 := ⟨_, rfl⟩
        obtain ⟨s, hs⟩ : ∃ s, s = min u v := ⟨_, rfl⟩
        obtain ⟨t, ht⟩ : ∃ t, t = max u v := ⟨_, rfl⟩
        have HF : Hid (fit1 (x, y) = ((s : Int), (t : Int))) := Lib.hid (by unfold fit1; simp only []; rw [hs, ht, hu, hv])
        have m1 : (x : Int).tmod 30001 = (u : Int) := by rw [Int.tmod_eq_emod_of_nonneg (by omega)]; omega
        have m2 : (x : Int) % 30001 = (u : Int) := by omega
        have m3 : (y : Int).tmod 30001 = (v : Int) := by rw [Int.tmod_eq_emod_of_nonneg (by omega)]; omega
        have m4 : (y : Int) % 30001 = (v : Int) := by omega
        have n1 : min (u : Int) (v : Int) = (s : Int) := by omega
        have n2 : max (u : Int) (v : Int) = (t : Int) := by omega
        have HRW := Lib.hid hI.out.1
        have HKW := Lib.hid hI.out.2.2
        have HLT : Hid (∀ j, (Value.slice a acc.length c).ownBlock = some j → w0.heap.size ≤ j) := Lib.hid fun j hj => (hI.out.1.lt j hj).1
        have HAL : Hid (acc.length ≤ 6) := Lib.hid (by rw [hI.out.2.1, List.length_map, List.length_take]; omega)
        have HAC : Hid (acc ++ [((s : Int), (t : Int))] = (l.take (k + 1)).map fit1) := Lib.hid (by rw [htk, List.map_append, ← hI.out.2.1, ← HF.out]; rfl)
        clear hc hg hI htk hu hv hs ht HF
        go_wp2_with fail
        go_quiet (fail)
        have kd := (Kept.refl (fun _ => False) wr).drewN nq
        replace HKW := Lib.hid (HKW.out.then kd)
        replace HRW := Lib.hid (HRW.out.on kd)
        clear kd
        generalize wr.drewN nq = W2 at *
        go_wp2_with (first
          | (at_builtin; refine wpList_pushG Tryz.underlying63 info_pair2 rfl (by omega) (by simp [Region.wanted, yielded]) _ _ rfl rfl w0.heap.size _ _ acc [((s : Int), (t : Int))] rfl rfl (HRW.out.alloc _) (RowG.new W2 #[.int .i64 (s : Int), .int .i64 (t : Int)] 62 1 [((s : Int), (t : Int))] rfl rfl (by unfold maxLen; omega)) (by have := HAL.out; simp; omega) (by have := HKW.out.size; simp; omega) ?_; intro a' c' w4 hown4 hk4 hat4; have HOWN4 := Lib.hid hown4; have HKK4 := Lib.hid hk4; clear hown4 hk4 hat4)
          | fail)
        have HI2 : Hid (OwnG ESp 62 w0.heap.size w4 (.slice a' (acc ++ [((s : Int), (t : Int))]).length c') (acc ++ [((s : Int), (t : Int))]) ∧ acc ++ [((s : Int), (t : Int))] = (l.take (k + 1)).map fit1 ∧ Kept (fun _ => False) w0 w4) := Lib.hid ⟨HOWN4.out, HAC.out, (HKW.out.then (Kept.alloc _ _ _)).trans HKK4.out (fun _ _ h => h) (fun i hi e => by have := HLT.out i e; omega)⟩
        go_roundw
        case rel => exact ⟨k + 1, a', c', acc ++ [((s : Int), (t : Int))], by omega, by omega, by go_num, by first | rfl | (rw [List.length_append]; rfl), HI2⟩
        case measure => simp [intOf]; omega
      · have l6 : ¬ ((k : Int) < 6) := by omega
        have he : acc = fitD l := by rw [hI.out.2.1, show k = 6 by omega]; rfl
        have HE := Lib.hid he
        clear he
        go_wp2_with fail
        go_ret
        refine ⟨_, rfl, ?_, hI.out.2.2⟩
        have h5 := hI.out.1
        rw [HE.out] at h5
        first | exact h5 | (rw [HE.out]; exact h5)
    · have l1 : ¬ ((k : Int) < (N : Int)) := by omega
      have he : acc = fitD l := by
        rw [hI.out.2.1]
        unfold fitD
        rw [List.take_of_length_le (by have := HN.out; omega), List.take_of_length_le (by have := HN.out; omega)]
      have HE := Lib.hid he
      clear he
      go_wp2_with fail
      go_ret
      refine ⟨_, rfl, ?_, hI.out.2.2⟩
      have h5 := hI.out.1
      rw [HE.out] at h5
      first | exact h5 | (rw [HE.out]; exact h5)
end Go.Proofs.YtjglnpijngdpkaaGreatDoor
