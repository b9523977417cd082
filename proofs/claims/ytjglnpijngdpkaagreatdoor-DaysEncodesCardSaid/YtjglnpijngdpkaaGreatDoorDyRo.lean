import Derived.Test.YtjglnpijngdpkaaGreatDoorDyR
/-
  Days: the reference's Of: the flags of spans.
-/
namespace Go.Proofs.YtjglnpijngdpkaaGreatDoor
open Go.RowKit Go.Shelf
set_option linter.unusedSimpArgs false
set_option linter.unusedVariables false
set_option maxRecDepth 100000

theorem info_boolD : (Tryz.prog.info? 4).map (fun i => (i.zero, i.size, i.bytes)) = some (some (.bool false), EB.z, 1) := by kernel_rfl
theorem flat_false (n : Nat) : (madeCells (Value.bool false).cells (n * 1)).toList = flatG EB (List.replicate n false) := by
  have h2 : flatG EB (List.replicate n false) = List.replicate n (.bool false) := by
    induction n with
    | zero => rfl
    | succ n ih => rw [List.replicate_succ, List.replicate_succ, ← ih]; rfl
  rw [h2, Nat.mul_one]
  simp [madeCells]
  rw [List.eq_replicate_iff]
  refine ⟨by simp, fun b hb => ?_⟩
  rw [List.mem_map] at hb
  obtain ⟨x, _, rfl⟩ := hb
  show (#[Value.bool false] : Array Value)[x % 1]! = _
  rw [Nat.mod_one]
  rfl
theorem made_flags {w : World} {g n B : Nat} {T : TypeId} (h : w.ownsRow B T 1 (.slice (some ⟨g, 0, none⟩) n n) n (madeCells (Value.bool false).cells (n * 1)).toList) : ∃ s, OwnG EB T B w (.slice (some ⟨g, 0, none⟩) n n) s ∧ s.length = n ∧ ∀ i : Nat, s.getD i false = false := by
  rw [flat_false] at h
  refine ⟨List.replicate n false, ?_, List.length_replicate, fun i => ?_⟩
  · unfold OwnG
    rw [List.length_replicate]
    exact h
  · by_cases hi : i < n <;> simp [List.getD, hi]

/-- What the outer loop of Of has made. -/
structure FlI (w0 wr : World) (Q M : Nat) (acc : List Bool) (done : List (Int × Int)) : Prop where
  row : OwnG EB 4 w0.heap.size wr (.slice (some ⟨Q, 0, none⟩) M M) acc
  len : acc.length = M
  val : ∀ d : Nat, d < M → acc.getD d false = spanIn done (d : Int)
  kept : Kept (fun _ => False) w0 wr
/-- What the inner loop of Of has made. -/
structure FlJ (w0 w1 wr : World) (Q M p c : Nat) (acc acc2 : List Bool) : Prop where
  row : OwnG EB 4 w0.heap.size wr (.slice (some ⟨Q, 0, none⟩) M M) acc2
  len : acc2.length = M
  val : ∀ d : Nat, d < M → acc2.getD d false = (acc.getD d false || (decide (p ≤ d) && decide (d < c)))
  kept : Kept (fun k => k = Q) w1 wr
  low : p ≤ c
theorem FlJ.cell {w0 w1 wr : World} {Q M p c : Nat} {acc acc2 : List Bool} (h : FlJ w0 w1 wr Q M p c acc acc2) (hc : c < M) : wr.cell? ⟨Q, c, none⟩ = some (.bool (acc2.getD c false)) := by
  obtain ⟨g, off, he, _, hat⟩ := h.row.row.at (k := c) (by rw [h.len]; exact hc)
  obtain ⟨rfl, rfl⟩ : Q = g ∧ 0 = off := by injection he with he; injection he with h1 h2; exact ⟨h1, h2⟩
  have h9 := atEB hat
  rw [show EB.z = 1 from rfl, Nat.mul_one, Nat.zero_add] at h9
  exact h9
theorem FlJ.next {w0 w1 wr : World} {Q M p c : Nat} {acc acc2 : List Bool} (h : FlJ w0 w1 wr Q M p c acc acc2) (hc : c < M) : FlJ w0 w1 (wr.setCell ⟨Q, c, none⟩ (.bool true)) Q M p (c + 1) acc (acc2.set c true) := by
  have h2 := OwnG.put (x := true) h.row h.len.symm (i := c) hc
  rw [show c * EB.z = c from Nat.mul_one c] at h2
  refine ⟨h2, by rw [List.length_set]; exact h.len, fun d hd => ?_, h.kept.trans (Kept.setCell (fun k => k = Q) wr _ _ rfl) (fun _ _ h => h) (fun _ _ h => h), by have := h.low; omega⟩
  by_cases e : d = c
  · subst e
    have : p ≤ d := h.low
    simp [List.getD, h.len, hd, this]
  · have h3 := h.val d hd
    have h4 : (acc2.set c true).getD d false = acc2.getD d false := by simp only [List.getD, List.getElem?_set]; rw [if_neg (fun hh => e hh.symm)]
    rw [h4, h3]
    have h5 : decide (d < c) = decide (d < c + 1) := by
      by_cases hh : d < c
      · rw [decide_eq_true hh, decide_eq_true (by omega)]
      · rw [decide_eq_false hh, decide_eq_false (by omega)]
    rw [h5]
theorem FlJ.done {w0 w1 wr : World} {Q M p q : Nat} {acc acc2 : List Bool} {l : List (Int × Int)} (h : FlJ w0 w1 wr Q M p (q + 1) acc acc2) (hi : FlI w0 w1 Q M acc l) : FlI w0 wr Q M acc2 (l ++ [((p : Int), (q : Int))]) := by
  have hq := (hi.row.lt Q rfl).1
  refine ⟨h.row, h.len, fun d hd => ?_, hi.kept.trans h.kept (fun _ _ h => h) (fun i hi2 e => by omega)⟩
  rw [h.val d hd, hi.val d hd, spanIn_append]
  have h1 : spanIn [((p : Int), (q : Int))] (d : Int) = (decide (p ≤ d) && decide (d < q + 1)) := by
    unfold spanIn
    simp only [List.any_cons, List.any_nil, Bool.or_false]
    have a1 : decide ((p : Int) ≤ (d : Int)) = decide (p ≤ d) := by
      by_cases hh : p ≤ d
      · rw [decide_eq_true hh, decide_eq_true (by omega)]
      · rw [decide_eq_false hh, decide_eq_false (by omega)]
    have a2 : decide ((d : Int) ≤ (q : Int)) = decide (d < q + 1) := by
      by_cases hh : d < q + 1
      · rw [decide_eq_true hh, decide_eq_true (by omega)]
      · rw [decide_eq_false hh, decide_eq_false (by omega)]
    rw [a1, a2]
  rw [h1]

set_option maxHeartbeats 3200000 in
theorem rofD_any (w : World) (v : Value) (l : List (Int × Int)) (h : RowG ESp w v l) (hl : l.length ≤ 100000) (hok : ∀ p ∈ l, okSp p) :
    Calls Tryz.prog 31 #[v] w fun e w' => ∃ u s, e = .returned u ∧ RowG EB w' u s ∧ s.length = 30001 ∧ (∀ d : Nat, d ≤ 30000 → s.getD d false = spanIn l (d : Int)) ∧ Kept (fun _ => False) w w' := by
  obtain ⟨la, lc, rfl, h1, h2⟩ := h.form
  have HV := Lib.hid h
  obtain ⟨N, hN⟩ : ∃ N, N = l.length := ⟨_, rfl⟩
  rw [← hN] at HV hl h1 ⊢
  have HN := Lib.hid hN; have HOK := Lib.hid hok
  unfold maxLen at h2
  clear h hN hok
  obtain ⟨M, hM⟩ : ∃ M : Nat, M = 30001 := ⟨_, rfl⟩
  have HM := Lib.hid hM
  have HMI : Hid ((30001 : Int) = (M : Int)) := Lib.hid (by omega)
  have hMb : M ≤ 30001 := by omega
  clear hM
  obtain ⟨i0, hi, hz0, hz1, hz2⟩ := info_parts info_boolD
  go_enter Tryz.func31, Tryz.ntmps31
  go_wp2_with (refine wpList_make_full _ rfl _ _ _ rfl w.heap.size 4 i0 _ 1 Tryz.underlying27 hi hz0 hz1 _ _ _ _ M rfl rfl HMI.out HMI.out (by rw [hz2]; omega) (by unfold maxLen; omega) (Nat.le_refl _) ?_; intro w2 hown2 hgrow2; have HMF := Lib.hid (made_flags hown2); have HKG := Lib.hid (Kept.ofBelow (fun _ => False) ((Below.refl _ w).grown hgrow2 (Nat.le_refl _) (fun k e => by cases e))); clear hown2 hgrow2 hi hz0 hz1 hz2)
  obtain ⟨s0, ho0, hl0, hf0⟩ := HMF.out
  obtain ⟨Q, hQ⟩ : ∃ Q, Q = w.heap.size := ⟨_, rfl⟩
  rw [← hQ] at ho0 ⊢
  have ho1 : OwnG EB 4 w.heap.size w2 (.slice (some ⟨Q, 0, none⟩) M M) s0 := by rw [hQ] at ho0 ⊢; exact ho0
  have HI0 : Hid (FlI w w2 Q M s0 (l.take 0)) := Lib.hid ⟨ho1, hl0, fun d _ => hf0 d, HKG.out⟩
  clear ho0 ho1 hl0 hf0 HMF hQ
  go_loopw [5, 6, 10] (fun _ _ iv wr => ∃ (k : Nat) (acc : List Bool), k ≤ N ∧ iv = .int .i64 (k : Int) ∧ Hid (FlI w wr Q M acc (l.take k))) (fun _ _ iv _ => N - (intOf iv).toNat)
  case atStart => exact ⟨0, s0, Nat.zero_le _, rfl, HI0⟩
  case round =>
    obtain ⟨k, acc, hk, rfl, hI⟩ := hrel
    clear HI0
    by_cases hlt : k < N
    · have l1 : (k : Int) < (N : Int) := by omega
      have l0 : (0 : Int) ≤ (k : Int) := by omega
      have hkl : k < l.length := by have := HN.out; omega
      obtain ⟨g, off, rfl, hg, hc⟩ := (HV.out.on hI.out.kept).at (k := k) hkl
      have htk : l.take (k + 1) = l.take k ++ [l.getD k (0, 0)] := by rw [List.take_add_one]; simp [List.getD, hkl]
      have hpm : l.getD k (0, 0) ∈ l := by simp [List.getD, hkl]
      have hpo := HOK.out _ hpm
      change AtG ESp wr g (off + k * 2) (l.getD k (0, 0)) at hc
      generalize l.getD k (0, 0) = p at hc htk hpo
      obtain ⟨pf, pt⟩ := p
      obtain ⟨c0, c1⟩ := atESp hc
      obtain ⟨p1, p2, p3⟩ := hpo
      simp only at c0 c1 p1 p2 p3
      obtain ⟨p, rfl⟩ : ∃ p : Nat, pf = (p : Int) := ⟨pf.toNat, by omega⟩
      obtain ⟨q, rfl⟩ : ∃ q : Nat, pt = (q : Int) := ⟨pt.toNat, by omega⟩
      have hka : Kept (fun _ => False) wr (wr.alloc (.cells #[.int .i64 (p : Int), .int .i64 (q : Int)] 62)) := Kept.alloc _ _ _
      have HBX : Hid ((wr.alloc (.cells #[.int .i64 (p : Int), .int .i64 (q : Int)] 62)).cell? ⟨wr.heap.size, 0, none⟩ = some (.int .i64 (p : Int)) ∧ (wr.alloc (.cells #[.int .i64 (p : Int), .int .i64 (q : Int)] 62)).cell? ⟨wr.heap.size, 1, none⟩ = some (.int .i64 (q : Int))) := Lib.hid ⟨by go_simp, by go_simp⟩
      have HI1 : Hid (FlI w (wr.alloc (.cells #[.int .i64 (p : Int), .int .i64 (q : Int)] 62)) Q M acc (l.take k)) := Lib.hid ⟨hI.out.row.on hka, hI.out.len, hI.out.val, hI.out.kept.then hka⟩
      have HNQ : Hid (¬ wr.heap.size = Q) := Lib.hid (by have := (hI.out.row.lt Q rfl).2; omega)
      have HTK := Lib.hid htk
      clear hc hg hka htk hpm hI
      go_wp2_with fail
      obtain ⟨x0, x1⟩ := HBX.out
      generalize wr.alloc (.cells #[.int .i64 (p : Int), .int .i64 (q : Int)] 62) = W1 at *
      generalize wr.heap.size = Q1 at *
      clear HBX
      have HX1 := Lib.hid x1
      have HJ0 : Hid (FlJ w W1 W1 Q M p p acc acc) := Lib.hid ⟨HI1.out.row, HI1.out.len, fun d _ => by rw [show (decide (p ≤ d) && decide (d < p)) = false by simp, Bool.or_false], Kept.refl _ _, Nat.le_refl _⟩
      go_loopw [6] (fun dv wi => ∃ (c : Nat) (acc2 : List Bool), c ≤ q + 1 ∧ dv = .int .i64 (c : Int) ∧ Hid (FlJ w W1 wi Q M p c acc acc2)) (fun dv _ => (q + 1) - (intOf dv).toNat)
      case atStart => exact ⟨p, acc, by omega, rfl, HJ0⟩
      case round =>
        obtain ⟨c, acc2, hcq, rfl, hJ⟩ := hrel
        clear x0 x1 HJ0
        have y1 := (hJ.out.kept.cell (World.block_lt_of_cell? W1 _ HX1.out) HNQ.out).trans HX1.out
        by_cases hcl : c ≤ q
        · have hcM : c < M := by have := HM.out; omega
          have n1 : (c : Int) ≤ (q : Int) := by omega
          have n0 : (0 : Int) ≤ (c : Int) := by omega
          have n2 : (c : Int) < (M : Int) := by omega
          have e1 := hJ.out.cell hcM
          generalize acc2.getD c false = b0 at e1
          have f1 : wr.frozen? ⟨Q, c, none⟩ = false := hJ.out.row.cellsC.2.1 c
          have HJ2 := Lib.hid (hJ.out.next hcM)
          clear hJ
          go_wp2_with fail
          go_roundw
          case rel => exact ⟨c + 1, acc2.set c true, by omega, by go_num, HJ2⟩
          case measure => simp [intOf]; omega
        · obtain rfl : c = q + 1 := by omega
          have n1 : ¬ ((q : Int) + 1 ≤ (q : Int)) := by omega
          have HI2 : Hid (FlI w wr Q M acc2 (l.take (k + 1))) := Lib.hid (by rw [HTK.out]; exact hJ.out.done HI1.out)
          clear hJ
          go_wp2_with fail
          go_roundw
          case rel => exact ⟨k + 1, acc2, by omega, by go_num, HI2⟩
          case measure => simp [intOf]; omega
    · obtain rfl : k = N := by omega
      have hv := hI.out.val
      rw [List.take_of_length_le (by rw [← HN.out]; exact Nat.le_refl _)] at hv
      have HVV := Lib.hid hv
      clear hv
      go_wp2_with fail
      go_ret
      exact ⟨_, acc, rfl, hI.out.row.row, by rw [hI.out.len]; exact HM.out, fun d hd => HVV.out d (by have := HM.out; omega), hI.out.kept⟩
end Go.Proofs.YtjglnpijngdpkaaGreatDoor
