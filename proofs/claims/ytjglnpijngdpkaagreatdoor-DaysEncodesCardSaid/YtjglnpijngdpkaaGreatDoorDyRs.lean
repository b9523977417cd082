import Derived.Test.YtjglnpijngdpkaaGreatDoorDyL
/-
  Days: the reference's Spans.
-/
namespace Go.Proofs.YtjglnpijngdpkaaGreatDoor
open Go.RowKit Go.Shelf
set_option linter.unusedSimpArgs false
set_option linter.unusedVariables false
set_option maxRecDepth 100000

theorem info_pair2 : (Tryz.prog.info? 62).map (fun i => (i.zero, i.size, i.bytes)) = some (some (.agg #[.int .i64 0, .int .i64 0]), ESp.z, 16) := by kernel_rfl
theorem flatSp_one (s d : Int) : flatG ESp [(s, d)] = [.int .i64 s, .int .i64 d] := rfl
/-- The end of the last span written anew. -/
theorem OwnG.last {T : TypeId} {B : Nat} {w : World} {g n c : Nat} {l : List (Int × Int)} {s y : Int} (d : Int) (h : OwnG ESp T B w (.slice (some ⟨g, 0, none⟩) n c) (l ++ [(s, y)])) (hn : n = l.length + 1) :
    OwnG ESp T B (w.setCell ⟨g, l.length * 2 + 1, none⟩ (.int .i64 d)) (.slice (some ⟨g, 0, none⟩) n c) (l ++ [(s, d)]) := by
  obtain ⟨_, _, h3, _⟩ := h.cellsC
  have hl : (l ++ [(s, y)]).length = n := by rw [List.length_append, hn]; rfl
  have hl2 : (l ++ [(s, d)]).length = n := by rw [List.length_append, hn]; rfl
  have hnc : n ≤ c := by omega
  unfold OwnG at h ⊢
  rw [hl] at h
  rw [hl2]
  have hz : ESp.z = 2 := rfl
  refine row_set (vs := [.int .i64 d]) h (l.length * 2 + 1) hnc (by rw [hz]; simp; omega) (by rw [flatG_length, hl2]) fun cur hcl htk j hj => ?_
  rw [take_getElem? htk (by rw [hz] at hj ⊢; omega)]
  rw [hz] at hj
  rw [flatG_append, flatG_append, flatSp_one, flatSp_one]
  have hf : (flatG ESp l).length = l.length * 2 := by rw [flatG_length, hz]
  by_cases e : j < l.length * 2
  · rw [if_neg (by simp; omega), List.getElem?_append_left (by omega), List.getElem?_append_left (by omega)]
  · rw [List.getElem?_append_right (by omega), List.getElem?_append_right (by omega), hf]
    by_cases e2 : j = l.length * 2
    · rw [if_neg (by simp; omega), show j - l.length * 2 = 0 by omega]; rfl
    · rw [if_pos (by simp; omega), show j - l.length * 2 = 1 by omega, show j - (l.length * 2 + 1) = 0 by omega]; rfl
theorem cutT_len (t : List Int) (d : Int) : (cutT t d).length ≤ t.length + 1 := by
  unfold cutT
  simp only []
  have h := List.length_filter_le (fun x => decide (x < d)) t
  split
  · rw [List.length_append, show ([d] : List Int).length = 1 from rfl]; omega
  · omega
theorem spansD_two (a b : Int) : spansD [a, b] = [(a, b - 1)] := rfl

set_option maxHeartbeats 3200000 in
theorem rspansD_any (w0 : World) (v : Value) (s : List Bool) (t : List Int) (h : RowG EB w0 v s) (hs : s.length = 30001) (hcan : CanD t) (hv : ∀ d : Nat, d ≤ 30000 → s.getD d false = inD t (d : Int)) :
    Calls Tryz.prog 34 #[v] w0 fun e w' => ∃ u, e = .returned u ∧ OwnG ESp 62 w0.heap.size w' u (spansD t) ∧ Kept (fun _ => False) w0 w' := by
  obtain ⟨la, lc, rfl, h1, h2⟩ := h.form
  have HV := Lib.hid h
  obtain ⟨N, hN⟩ : ∃ N, N = s.length := ⟨_, rfl⟩
  rw [← hN] at HV h1 hs ⊢
  have HN := Lib.hid hN; have HS := Lib.hid hs; have HC := Lib.hid hcan; have HT := Lib.hid hv
  have hNb : N ≤ 30001 := by omega
  unfold maxLen at h2
  clear h hN hs hcan hv
  go_enter Tryz.func34, Tryz.ntmps34
  go_wp2_with fail
  go_loopw [3, 4, 5, 8] (fun tv _ _ iv wr => ∃ (k : Nat) (a : Option Addr) (c : Nat) (acc : List (Int × Int)), k ≤ N ∧ iv = .int .i64 (k : Int) ∧ tv = .slice a acc.length c ∧ Hid (OwnG ESp 62 w0.heap.size wr (.slice a acc.length c) acc ∧ acc = spansD (cutT t (k : Int)) ∧ Kept (fun _ => False) w0 wr)) (fun _ _ _ iv _ => N - (intOf iv).toNat)
  case atStart => exact ⟨0, none, 0, [], Nat.zero_le _, rfl, rfl, Lib.hid ⟨OwnG.nil _ _ _, by rw [show ((0 : Nat) : Int) = 0 from rfl, cutT_start HC.out]; rfl, Kept.refl _ _⟩⟩
  case round =>
    obtain ⟨k, a, c, acc, hk, rfl, rfl, hI⟩ := hrel
    by_cases hlt : k < N
    · have l1 : (k : Int) < (N : Int) := by omega
      have l0 : (0 : Int) ≤ (k : Int) := by omega
      have hkl : k < s.length := by have := HN.out; omega
      have hrow := HV.out.on hI.out.2.2
      obtain ⟨g, off, rfl, hg, hat⟩ := hrow.at (k := k) hkl
      have hin := HT.out k (by omega)
      change AtG EB wr g (off + k * 1) (s.getD k false) at hat
      rw [Nat.mul_one] at hat
      generalize s.getD k false = b at hat hin
      have c0 := atEB hat
      have HAL : Hid (acc.length ≤ 30003) := Lib.hid (by rw [hI.out.2.1, spansD_len]; have := cutT_len t (k : Int); have := HC.out.len; omega)
      have HRW := Lib.hid hI.out.1
      have HKW := Lib.hid hI.out.2.2
      have HAC := Lib.hid hI.out.2.1
      have HLT : Hid (∀ j, (Value.slice a acc.length c).ownBlock = some j → w0.heap.size ≤ j) := Lib.hid fun j hj => (hI.out.1.lt j hj).1
      cases b with
      | false =>
        have HNX : Hid (acc = spansD (cutT t ((k + 1 : Nat) : Int))) := Lib.hid (by rw [show ((k + 1 : Nat) : Int) = (k : Int) + 1 by omega, cutT_no HC.out hin.symm]; exact HAC.out)
        have HI2 := Lib.hid (And.intro HRW.out (And.intro HNX.out HKW.out))
        clear hI hat hin hg
        go_wp2_with fail
        go_roundw
        case rel => exact ⟨k + 1, a, c, acc, by omega, by go_num, by first | rfl | trivial, HI2⟩
        case measure => simp [intOf]; omega
      | true =>
        by_cases hk0 : k = 0
        · have hk1 : ¬ ((0 : Int) < (k : Int)) := by omega
          have hnew := cutT_new HC.out hin.symm (HC.out.before (by omega))
          have HNX : Hid (acc ++ [((k : Int), (k : Int))] = spansD (cutT t ((k + 1 : Nat) : Int))) := Lib.hid (by
            rw [show ((k + 1 : Nat) : Int) = (k : Int) + 1 by omega, hnew.2, spansD_append _ _ hnew.1, spansD_two, show (k : Int) + 1 - 1 = (k : Int) by omega, ← HAC.out])
          have HY : Hid (RowG ESp (wr.alloc (.cells #[.int .i64 (k : Int), .int .i64 (k : Int)] 62)) (.slice (some ⟨wr.heap.size, 0, none⟩) 1 1) [((k : Int), (k : Int))]) := Lib.hid (RowG.new wr #[.int .i64 (k : Int), .int .i64 (k : Int)] 62 1 [((k : Int), (k : Int))] rfl rfl (by unfold maxLen; omega))
          clear hI hat hin hg hnew hrow hk0
          go_wp2_with (first
            | (at_builtin; refine wpList_pushG Tryz.underlying63 info_pair2 rfl (by omega) (by simp [Region.wanted, yielded]) _ _ rfl rfl w0.heap.size _ _ acc [((k : Int), (k : Int))] rfl rfl (HRW.out.alloc _) HY.out (by have := HAL.out; simp; omega) (by have := HKW.out.size; simp at *; omega) ?_; intro a' c' w4 hown4 hk4 hat4; have HOWN4 := Lib.hid hown4; have HKK4 := Lib.hid hk4; clear hown4 hk4 hat4)
            | fail)
          have HI2 : Hid (OwnG ESp 62 w0.heap.size w4 (.slice a' (acc ++ [((k : Int), (k : Int))]).length c') (acc ++ [((k : Int), (k : Int))]) ∧ acc ++ [((k : Int), (k : Int))] = spansD (cutT t ((k + 1 : Nat) : Int)) ∧ Kept (fun _ => False) w0 w4) := Lib.hid ⟨HOWN4.out, HNX.out, (HKW.out.then (Kept.alloc _ _ _)).trans HKK4.out (fun _ _ h => h) (fun i hi e => by have := HLT.out i e; omega)⟩
          go_roundw
          case rel => exact ⟨k + 1, a', c', acc ++ [((k : Int), (k : Int))], by omega, by go_num, by first | rfl | (rw [List.length_append]; rfl), HI2⟩
          case measure => simp [intOf]; omega
        · obtain ⟨j, hj⟩ : ∃ j : Nat, k = j + 1 := ⟨k - 1, by omega⟩
          have hkj : (k : Int) - 1 = (j : Int) := by omega
          have hk1 : (0 : Int) < (k : Int) := by omega
          have j0 : (0 : Int) ≤ (j : Int) := by omega
          have j1 : (j : Int) < (N : Int) := by omega
          have j2 : j ≤ 30001 := by omega
          obtain ⟨g2, off2, he, _, hat2⟩ := hrow.at (k := j) (by have := HN.out; omega)
          obtain ⟨rfl, rfl⟩ : g = g2 ∧ off = off2 := by injection he with he; injection he with h1 h2; exact ⟨h1, h2⟩
          have hin2 := HT.out j (by omega)
          change AtG EB wr g (off + j * 1) (s.getD j false) at hat2
          rw [Nat.mul_one] at hat2
          generalize s.getD j false = b2 at hat2 hin2
          rw [← hkj] at hin2
          have c2 := atEB hat2
          cases b2 with
          | false =>
            have hnew := cutT_new HC.out hin.symm hin2.symm
            have HNX : Hid (acc ++ [((k : Int), (k : Int))] = spansD (cutT t ((k + 1 : Nat) : Int))) := Lib.hid (by
              rw [show ((k + 1 : Nat) : Int) = (k : Int) + 1 by omega, hnew.2, spansD_append _ _ hnew.1, spansD_two, show (k : Int) + 1 - 1 = (k : Int) by omega, ← HAC.out])
            have HY : Hid (RowG ESp (wr.alloc (.cells #[.int .i64 (k : Int), .int .i64 (k : Int)] 62)) (.slice (some ⟨wr.heap.size, 0, none⟩) 1 1) [((k : Int), (k : Int))]) := Lib.hid (RowG.new wr #[.int .i64 (k : Int), .int .i64 (k : Int)] 62 1 [((k : Int), (k : Int))] rfl rfl (by unfold maxLen; omega))
            clear hI hat hin hg hnew hrow hat2 hin2 he hj
            go_wp2_with (first
              | (at_builtin; refine wpList_pushG Tryz.underlying63 info_pair2 rfl (by omega) (by simp [Region.wanted, yielded]) _ _ rfl rfl w0.heap.size _ _ acc [((k : Int), (k : Int))] rfl rfl (HRW.out.alloc _) HY.out (by have := HAL.out; simp; omega) (by have := HKW.out.size; simp at *; omega) ?_; intro a' c' w4 hown4 hk4 hat4; have HOWN4 := Lib.hid hown4; have HKK4 := Lib.hid hk4; clear hown4 hk4 hat4)
              | fail)
            have HI2 : Hid (OwnG ESp 62 w0.heap.size w4 (.slice a' (acc ++ [((k : Int), (k : Int))]).length c') (acc ++ [((k : Int), (k : Int))]) ∧ acc ++ [((k : Int), (k : Int))] = spansD (cutT t ((k + 1 : Nat) : Int)) ∧ Kept (fun _ => False) w0 w4) := Lib.hid ⟨HOWN4.out, HNX.out, (HKW.out.then (Kept.alloc _ _ _)).trans HKK4.out (fun _ _ h => h) (fun i hi e => by have := HLT.out i e; omega)⟩
            go_roundw
            case rel => exact ⟨k + 1, a', c', acc ++ [((k : Int), (k : Int))], by omega, by go_num, by first | rfl | (rw [List.length_append]; rfl), HI2⟩
            case measure => simp [intOf]; omega
          | true =>
            obtain ⟨a1, s1, hev, hc1, hc2⟩ := cutT_more HC.out hin.symm hin2.symm
            have e1 : acc = spansD a1 ++ [(s1, (k : Int) - 1)] := by rw [HAC.out, hc1, spansD_append _ _ hev]; rfl
            have e2 : spansD a1 ++ [(s1, (k : Int))] = spansD (cutT t ((k + 1 : Nat) : Int)) := by
              rw [show ((k + 1 : Nat) : Int) = (k : Int) + 1 by omega, hc2, spansD_append _ _ hev, spansD_two, show (k : Int) + 1 - 1 = (k : Int) by omega]
            obtain ⟨m, hm⟩ : ∃ m, m = (spansD a1).length := ⟨_, rfl⟩
            have hlen : acc.length = m + 1 := by rw [e1, hm]; simp
            obtain ⟨g7, rfl⟩ : ∃ g7, a = some ⟨g7, 0, none⟩ := by
              rcases HRW.out.2 with ⟨h, h'⟩ | ⟨g', _, _, h, _⟩
              · omega
              · cases h; exact ⟨g', rfl⟩
            have cy : wr.cell? ⟨g7, m * 2 + 1, none⟩ = some (.int .i64 ((k : Int) - 1)) := by
              obtain ⟨g8, o8, he, _, hat⟩ := HRW.out.row.at (k := m) (by omega)
              obtain ⟨rfl, rfl⟩ : g7 = g8 ∧ 0 = o8 := by injection he with he; injection he with h1 h2; exact ⟨h1, h2⟩
              have h9 := (atESp hat).2
              rw [show ESp.z = 2 from rfl, Nat.zero_add] at h9
              rw [h9, e1, hm]
              simp [List.getD]
            have hfz : wr.frozen? ⟨g7, m * 2 + 1, none⟩ = false := HRW.out.cellsC.2.1 _
            have m0 : (0 : Int) ≤ (m : Int) := by omega
            have m1 : (m : Int) < (acc.length : Int) := by omega
            have m2 : (m : Int) ≤ 30002 := by have := HAL.out; omega
            have hw3 : (acc.length : Int) - 1 = (m : Int) := by omega
            have HI2 : Hid (OwnG ESp 62 w0.heap.size (wr.setCell ⟨g7, m * 2 + 1, none⟩ (.int .i64 (k : Int))) (.slice (some ⟨g7, 0, none⟩) (spansD a1 ++ [(s1, (k : Int))]).length c) (spansD a1 ++ [(s1, (k : Int))]) ∧ spansD a1 ++ [(s1, (k : Int))] = spansD (cutT t ((k + 1 : Nat) : Int)) ∧ Kept (fun _ => False) w0 (wr.setCell ⟨g7, m * 2 + 1, none⟩ (.int .i64 (k : Int)))) := Lib.hid (by
              have h1 := HRW.out
              rw [hlen, e1] at h1
              have h2 := OwnG.last (k : Int) h1 (by rw [hm])
              rw [← hm] at h2
              rw [show (spansD a1 ++ [(s1, (k : Int))]).length = m + 1 by rw [hm]; simp]
              exact ⟨h2, e2, HKW.out.trans (Kept.setCell (fun k => k = g7) wr _ _ rfl) (fun _ _ h => h) (fun i hi e => by have := HLT.out g7 rfl; omega)⟩)
            have HLL : Hid (acc.length = (spansD a1 ++ [(s1, (k : Int))]).length) := Lib.hid (by rw [hlen, hm]; simp)
            clear hI hat hat2 hin hin2 hg hrow e1 e2 hc1 hc2 hev hm hlen he HAC hj
            go_wp2_with fail
            go_roundw
            case rel => exact ⟨k + 1, some ⟨g7, 0, none⟩, c, _, by omega, by go_num, by rw [HLL.out], HI2⟩
            case measure => simp [intOf]; omega
    · obtain rfl : k = N := by omega
      have he : acc = spansD t := by rw [hI.out.2.1, HS.out, show ((30001 : Nat) : Int) = 30001 from rfl, cutT_end HC.out]
      have HE := Lib.hid he
      clear he
      go_wp2_with fail
      go_ret
      refine ⟨_, rfl, ?_, hI.out.2.2⟩
      have h5 := hI.out.1
      rw [HE.out] at h5
      first | exact h5 | (rw [HE.out]; exact h5)
end Go.Proofs.YtjglnpijngdpkaaGreatDoor
