import Derived.Test.YtjglnpijngdpkaaGreatDoorDySo
import Derived.Test.YtjglnpijngdpkaaGreatDoorDyX
import Derived.Shelf.SlSortCmp.NoneTotal
import Derived.StillTailTactics
/-
  days.Of.
-/
namespace Go.Proofs.YtjglnpijngdpkaaGreatDoor
open Go.RowKit Go.Shelf
set_option linter.unusedSimpArgs false
set_option linter.unusedVariables false
set_option maxRecDepth 100000

/-- The first error of some spans. -/
def errD : List (Int × Int) → Int
  | [] => 0
  | p :: r => if (decide (0 ≤ p.1) && decide (p.1 ≤ 30000)) = true ∧ (decide (0 ≤ p.2) && decide (p.2 ≤ 30000)) = true then (if p.2 < p.1 then 1 else errD r) else 2
theorem errD_ok : ∀ {l : List (Int × Int)}, errD l = 0 → ∀ p ∈ l, okSp p
  | [], _ => by simp
  | p :: r, h => by
    unfold errD at h
    split at h
    next hh =>
      split at h
      next h2 => cases h
      next h2 =>
        intro q hq
        rcases List.mem_cons.1 hq with e | e
        · subst e
          simp only [Bool.and_eq_true, decide_eq_true_eq] at hh
          exact ⟨hh.1.1, by omega, hh.2.2⟩
        · exact errD_ok h q e
    next hh => cases h
theorem errD_drop {l : List (Int × Int)} {k : Nat} (h : k < l.length) : errD (l.drop k) = (if (decide (0 ≤ (l.getD k (0, 0)).1) && decide ((l.getD k (0, 0)).1 ≤ 30000)) = true ∧ (decide (0 ≤ (l.getD k (0, 0)).2) && decide ((l.getD k (0, 0)).2 ≤ 30000)) = true then (if (l.getD k (0, 0)).2 < (l.getD k (0, 0)).1 then 1 else errD (l.drop (k + 1))) else 2) := by
  rw [List.drop_eq_getElem_cons h]
  simp [List.getD, h, errD]
theorem sortD_none (a : Option Addr) (c : Nat) (fv : Value) (w : World) : Calls Tryz.prog 51 #[.slice a 0 c, fv] w fun e w' => e = .returned (.tuple #[]) ∧ w = w' :=
  (AnyF.slices_SortFunc_none (P := Tryz.prog) (ρ := laysSortD_ren) laysSortD a c fv w).mono fun _ _ ⟨h1, h2⟩ => ⟨h1, h2.symm⟩
/-- The spans sorted, a row of none too. -/
theorem sortD_all (w : World) (B : Nat) (v : Value) (l : List (Int × Int)) (h : OwnG ESp 49 B w v l) (hl : l.length ≤ 1000000) :
    Calls Tryz.prog 51 #[v, .func (.func 52) #[] #[]] w fun e w' => e = .returned (.tuple #[]) ∧
      ∃ r : List (Int × Int), r.Perm l ∧ r.Pairwise (fun p q => p.1 ≤ q.1) ∧ RowG ESp w' v r ∧ Kept (fun k => v.ownBlock = some k) w w' := by
  have h0 := h
  rcases h.2 with ⟨rfl, h2⟩ | ⟨g, cap, cur, rfl, _⟩
  · obtain rfl := List.eq_nil_of_length_eq_zero h2
    exact (sortD_none none 0 _ w).mono fun e w' ⟨h1, h2⟩ => by
      subst h2
      exact ⟨h1, [], List.Perm.refl _, List.Pairwise.nil, Or.inl ⟨rfl, rfl⟩, Kept.refl _ _⟩
  · refine (sortD_any w B g cap l h0 hl).mono fun e w' ⟨h1, r, h2, h3, h4, h5⟩ => ⟨h1, r, h2, h3, h4, h5.mono fun k _ hk => by show _ = _; rw [hk]; rfl⟩

/-- What the second loop has made. -/
structure OfI (w wr : World) (v : Value) (acc : List Int) (done : List (Int × Int)) : Prop where
  row : OwnG EI 3 w.heap.size wr v acc
  of : OfD done acc
  kept : Kept (fun _ => False) w wr
theorem OfD.len {done : List (Int × Int)} {t : List Int} (h : OfD done t) : t.length ≤ 30002 := h.can.len

set_option maxHeartbeats 6400000 in
theorem ofD_any (w0 : World) (v : Value) (l : List (Int × Int)) (h : RowG ESp w0 v l) (hl : l.length ≤ 100000) :
    Calls Tryz.prog 24 #[v] w0 fun e w' => ∃ sv, e = .returned (.tuple #[sv, .int .i64 (errD l)]) ∧ Kept (fun _ => False) w0 w' ∧ ((errD l = 0 ∧ ∃ t, SetD w' sv t ∧ ∀ d, inD t d = spanIn l d) ∨ (errD l ≠ 0 ∧ sv = .agg #[.slice none 0 0])) := by
  obtain ⟨la, lc, rfl, h1, h2⟩ := h.form
  have HV := Lib.hid h
  obtain ⟨N, hN⟩ : ∃ N, N = l.length := ⟨_, rfl⟩
  obtain ⟨E, hE⟩ : ∃ E, E = errD l := ⟨_, rfl⟩
  rw [← hN] at HV hl h1 ⊢
  rw [← hE]
  have HN := Lib.hid hN; have HE := Lib.hid hE
  unfold maxLen at h2
  have HKA := Lib.hid (Kept.alloc (fun _ => False) w0 (.cells #[.slice none 0 0] 26))
  have HCS : Hid ((w0.alloc (.cells #[.slice none 0 0] 26)).cell? ⟨w0.heap.size, 0, none⟩ = some (.slice none 0 0) ∧ (w0.alloc (.cells #[.slice none 0 0] 26)).frozen? ⟨w0.heap.size, 0, none⟩ = false) := Lib.hid ⟨by go_simp, by go_simp⟩
  have HP := Lib.hid (fun d W => possD_any d W)
  clear h hN hE
  go_enter Tryz.func24, Tryz.ntmps24
  go_wp2_with fail
  generalize w0.alloc (.cells #[.slice none 0 0] 26) = w at *
  obtain ⟨Q, hQ⟩ : ∃ Q, Q = w0.heap.size := ⟨_, rfl⟩
  have HQ := Lib.hid hQ
  rw [← hQ] at HCS ⊢
  clear hQ
  have HC : Hid (∀ W, Kept (fun _ => False) w W → W.cell? ⟨Q, 0, none⟩ = some (.slice none 0 0) ∧ W.frozen? ⟨Q, 0, none⟩ = false) := Lib.hid fun W hk => by
    obtain ⟨a0, a1⟩ := HCS.out
    have hlt := World.block_lt_of_cell? w _ a0
    refine ⟨(hk.cell hlt (fun h => h)).trans a0, ?_⟩
    rw [← a1]
    unfold World.frozen?
    rw [hk.block _ hlt (fun h => h)]
  go_loopw [5, 13] (fun _ iv wr => ∃ (k : Nat), k ≤ N ∧ iv = .int .i64 (k : Int) ∧ Hid (errD (l.drop k) = E) ∧ Hid (Kept (fun _ => False) w wr)) (fun _ iv _ => N - (intOf iv).toNat)
  case atStart => exact ⟨0, Nat.zero_le _, rfl, Lib.hid (by rw [HE.out]; rfl), Lib.hid (Kept.refl _ _)⟩
  case round =>
    obtain ⟨k, hk, rfl, her, hkw⟩ := hrel
    by_cases hlt : k < N
    · have l1 : (k : Int) < (N : Int) := by omega
      have l0 : (0 : Int) ≤ (k : Int) := by omega
      have hkl : k < l.length := by have := HN.out; omega
      obtain ⟨g, off, rfl, hg, hc⟩ := ((HV.out.on HKA.out).on hkw.out).at (k := k) hkl
      have hed := errD_drop hkl
      rw [her.out] at hed
      change AtG ESp wr g (off + k * 2) (l.getD k (0, 0)) at hc
      generalize l.getD k (0, 0) = p at hc hed
      obtain ⟨pf, pt⟩ := p
      obtain ⟨c0, c1⟩ := atESp hc
      simp only at c0 c1 hed
      have HP1 := Lib.hid (HP.out pf); have HP2 := Lib.hid (HP.out pt)
      generalize (decide (0 ≤ pf) && decide (pf ≤ 30000)) = B1 at *
      generalize (decide (0 ≤ pt) && decide (pt ≤ 30000)) = B2 at *
      have HED := Lib.hid hed
      have hka : Kept (fun _ => False) wr (wr.alloc (.cells #[.int .i64 pf, .int .i64 pt] 49)) := Kept.alloc _ _ _
      have HKW := Lib.hid (hkw.out.then hka)
      have HBX : Hid ((wr.alloc (.cells #[.int .i64 pf, .int .i64 pt] 49)).cell? ⟨wr.heap.size, 0, none⟩ = some (.int .i64 pf) ∧ (wr.alloc (.cells #[.int .i64 pf, .int .i64 pt] 49)).cell? ⟨wr.heap.size, 1, none⟩ = some (.int .i64 pt)) := Lib.hid ⟨by go_simp, by go_simp⟩
      have hgq : ¬ Q = wr.heap.size := by
        have := World.block_lt_of_cell? wr _ (HC.out wr hkw.out).1
        simp only at this
        omega
      clear hc hg hed hka her hkw
      cases B1 with
      | false =>
        have hE2 : E = 2 := by rw [HED.out]; simp
        subst hE2
        go_wp2_with (first
          | (go_at_call 49; refine (HP1.out _).mono ?_; rintro e w2 ⟨rfl, rfl⟩; generalize wr.alloc (.cells #[.int .i64 pf, .int .i64 pt] 49) = W1 at *; generalize wr.heap.size = Q1 at *; obtain ⟨q0, q1⟩ := HC.out _ HKW.out; obtain ⟨x0, x1⟩ := HBX.out)
          | fail)
        have r0 : (W1.setCell ⟨Q, 0, none⟩ (.slice none 0 0)).cell? ⟨Q, 0, none⟩ = some (.slice none 0 0) := by go_simp
        have HEND : Hid (Kept (fun _ => False) w0 (W1.setCell ⟨Q, 0, none⟩ (.slice none 0 0))) := Lib.hid ((HKA.out.then HKW.out).trans (Kept.setCell (fun k => k = Q) W1 _ _ rfl) (fun _ _ h => h) (fun i hi e => by have := HQ.out; omega))
        refine bodyPost_ret (v := .tuple #[.agg #[.slice none 0 0], .int .i64 2]) (by simp [results, Tryz.results24, go_sem, r0]) rfl ⟨_, rfl, HEND.out, Or.inr ⟨by decide, rfl⟩⟩
      | true =>
        cases B2 with
        | false =>
          have hE2 : E = 2 := by rw [HED.out]; simp
          subst hE2
          go_wp2_with (first
            | (go_at_call 49; have _g := HP1; clear _g; refine (HP1.out _).mono ?_; rintro e w2 ⟨rfl, rfl⟩; generalize wr.alloc (.cells #[.int .i64 pf, .int .i64 pt] 49) = W1 at *; generalize wr.heap.size = Q1 at *; obtain ⟨q0, q1⟩ := HC.out _ HKW.out; obtain ⟨x0, x1⟩ := HBX.out; clear HP1)
            | (go_at_call 49; refine (HP2.out _).mono ?_; rintro e w3 ⟨rfl, rfl⟩)
            | fail)
          have r0 : (W1.setCell ⟨Q, 0, none⟩ (.slice none 0 0)).cell? ⟨Q, 0, none⟩ = some (.slice none 0 0) := by go_simp
          have HEND : Hid (Kept (fun _ => False) w0 (W1.setCell ⟨Q, 0, none⟩ (.slice none 0 0))) := Lib.hid ((HKA.out.then HKW.out).trans (Kept.setCell (fun k => k = Q) W1 _ _ rfl) (fun _ _ h => h) (fun i hi e => by have := HQ.out; omega))
          refine bodyPost_ret (v := .tuple #[.agg #[.slice none 0 0], .int .i64 2]) (by simp [results, Tryz.results24, go_sem, r0]) rfl ⟨_, rfl, HEND.out, Or.inr ⟨by decide, rfl⟩⟩
        | true =>
          by_cases hft : pt < pf
          · have hE2 : E = 1 := by rw [HED.out]; simp [hft]
            subst hE2
            go_wp2_with (first
              | (go_at_call 49; have _g := HP1; clear _g; refine (HP1.out _).mono ?_; rintro e w2 ⟨rfl, rfl⟩; generalize wr.alloc (.cells #[.int .i64 pf, .int .i64 pt] 49) = W1 at *; generalize wr.heap.size = Q1 at *; obtain ⟨q0, q1⟩ := HC.out _ HKW.out; obtain ⟨x0, x1⟩ := HBX.out; clear HP1)
              | (go_at_call 49; refine (HP2.out _).mono ?_; rintro e w3 ⟨rfl, rfl⟩)
              | fail)
            have r0 : (W1.setCell ⟨Q, 0, none⟩ (.slice none 0 0)).cell? ⟨Q, 0, none⟩ = some (.slice none 0 0) := by go_simp
            have HEND : Hid (Kept (fun _ => False) w0 (W1.setCell ⟨Q, 0, none⟩ (.slice none 0 0))) := Lib.hid ((HKA.out.then HKW.out).trans (Kept.setCell (fun k => k = Q) W1 _ _ rfl) (fun _ _ h => h) (fun i hi e => by have := HQ.out; omega))
            refine bodyPost_ret (v := .tuple #[.agg #[.slice none 0 0], .int .i64 1]) (by simp [results, Tryz.results24, go_sem, r0]) rfl ⟨_, rfl, HEND.out, Or.inr ⟨by decide, rfl⟩⟩
          · have HNX : Hid (errD (l.drop (k + 1)) = E) := Lib.hid (by rw [HED.out]; simp [hft])
            go_wp2_with (first
              | (go_at_call 49; have _g := HP1; clear _g; refine (HP1.out _).mono ?_; rintro e w2 ⟨rfl, rfl⟩; generalize wr.alloc (.cells #[.int .i64 pf, .int .i64 pt] 49) = W1 at *; generalize wr.heap.size = Q1 at *; obtain ⟨q0, q1⟩ := HC.out _ HKW.out; obtain ⟨x0, x1⟩ := HBX.out; clear HP1)
              | (go_at_call 49; refine (HP2.out _).mono ?_; rintro e w3 ⟨rfl, rfl⟩)
              | fail)
            go_roundw
            case rel => exact ⟨k + 1, by omega, by go_num, HNX, HKW⟩
            case measure => simp [intOf]; omega
    · obtain rfl : k = N := by omega
      have hE0 : E = 0 := by
        have := her.out
        rw [HN.out, List.drop_length] at this
        exact this.symm
      subst hE0
      have HOK := Lib.hid (errD_ok HE.out.symm)
      have HCL := Lib.hid (cloneD_any _ l wr ((HV.out.on HKA.out).on hkw.out) (by rw [← HN.out]; exact hl))
      go_wp2_with fail
      refine HCL.out.mono ?_
      rintro e w2 ⟨v6, rfl, o2, k2⟩
      have K2 := Lib.hid (hkw.out.then k2)
      have HSO := Lib.hid (sortD_all w2 _ v6 l o2 (by rw [← HN.out]; omega))
      have HLT6 : Hid (∀ j, v6.ownBlock = some j → wr.heap.size ≤ j) := Lib.hid fun j hj => (o2.lt j hj).1
      clear o2 k2 her HCL
      go_wp2_with fail
      refine HSO.out.mono ?_
      rintro e w3 ⟨rfl, r, hperm, hsrt, hrow, k3⟩
      have K3 : Hid (Kept (fun _ => False) w w3) := Lib.hid (K2.out.trans k3 (fun _ _ h => h) (fun i hi e => by have := HLT6.out i e; have := hkw.out.size; omega))
      obtain ⟨ra, rc, hrf, hrc1, hrc2⟩ := hrow.form
      subst hrf
      have HROW := Lib.hid hrow; have HPM := Lib.hid hperm; have HSR := Lib.hid hsrt
      have hrl : r.length = k := by rw [hperm.length_eq]; exact HN.out.symm
      rw [hrl] at HROW hrc1 ⊢
      have HRL := Lib.hid hrl
      unfold maxLen at hrc2
      have HROK : Hid (∀ p ∈ r, okSp p) := Lib.hid fun p hp => HOK.out p (hperm.mem_iff.1 hp)
      have HI0 : Hid (OfI w3 w3 (.slice none 0 0) [] (r.take 0)) := Lib.hid ⟨OwnG.nil _ _ _, OfD.start, Kept.refl _ _⟩
      clear hperm hsrt hrow k3 HSO hrl hkw HV K2 HLT6 HOK
      go_wp2_with fail
      go_loopw [7, 9, 10, 41] (fun tv _ _ iv wr => ∃ (kk : Nat) (a : Option Addr) (c : Nat) (acc : List Int), kk ≤ k ∧ iv = .int .i64 (kk : Int) ∧ tv = .slice a acc.length c ∧ Hid (OfI w3 wr (.slice a acc.length c) acc (r.take kk))) (fun _ _ _ iv _ => k - (intOf iv).toNat)
      case atStart => exact ⟨0, none, 0, [], Nat.zero_le _, rfl, rfl, HI0⟩
      case round =>
        obtain ⟨kk, a, c, acc, hkk, rfl, rfl, hI⟩ := hrel
        clear HI0
        by_cases hlt2 : kk < k
        · have l1 : (kk : Int) < (k : Int) := by omega
          have l0 : (0 : Int) ≤ (kk : Int) := by omega
          have hkr : kk < r.length := by have := HRL.out; omega
          obtain ⟨g, off, rfl, hg, hc⟩ := (HROW.out.on hI.out.kept).at (k := kk) hkr
          have htk : r.take (kk + 1) = r.take kk ++ [r.getD kk (0, 0)] := by rw [List.take_add_one]; simp [List.getD, hkr]
          have hpm : r.getD kk (0, 0) ∈ r := by simp [List.getD, hkr]
          have hpo := HROK.out _ hpm
          have hps : ∀ q ∈ r.take kk, q.1 ≤ (r.getD kk (0, 0)).1 := fun q hq => by
            obtain ⟨i, hi, rfl⟩ := List.getElem_of_mem hq
            rw [List.length_take] at hi
            have := (List.pairwise_iff_getElem.1 HSR.out) i kk (by omega) hkr (by omega)
            rw [List.getElem_take]
            simpa [List.getD, hkr] using this
          change AtG ESp wr g (off + kk * 2) (r.getD kk (0, 0)) at hc
          generalize r.getD kk (0, 0) = p at hc htk hpo hps
          obtain ⟨pf, pt⟩ := p
          obtain ⟨c0, c1⟩ := atESp hc
          simp only at c0 c1
          have hka : Kept (fun _ => False) wr (wr.alloc (.cells #[.int .i64 pf, .int .i64 pt] 49)) := Kept.alloc _ _ _
          have HKW := Lib.hid (hI.out.kept.then hka)
          have HBX : Hid ((wr.alloc (.cells #[.int .i64 pf, .int .i64 pt] 49)).cell? ⟨wr.heap.size, 0, none⟩ = some (.int .i64 pf) ∧ (wr.alloc (.cells #[.int .i64 pf, .int .i64 pt] 49)).cell? ⟨wr.heap.size, 1, none⟩ = some (.int .i64 pt)) := Lib.hid ⟨by go_simp, by go_simp⟩
          have HLT : Hid (∀ j, (Value.slice a acc.length c).ownBlock = some j → w3.heap.size ≤ j) := Lib.hid fun j hj => (hI.out.row.lt j hj).1
          have HLU : Hid (∀ j, (Value.slice a acc.length c).ownBlock = some j → j < wr.heap.size) := Lib.hid fun j hj => (hI.out.row.lt j hj).2
          have HRW := Lib.hid (hI.out.row.on hka)
          have HAL : Hid (acc.length ≤ 30002) := Lib.hid hI.out.of.len
          have HOI := Lib.hid hI.out.of
          obtain ⟨p1, p2, p3⟩ := hpo
          simp only at p1 p2 p3
          have hw1 : IntKind.i64.wrap (pt + 1) = pt + 1 := IntWalk.i64_in _ (by omega)
          have HPS := Lib.hid hps; have HTK := Lib.hid htk
          clear hc hg hka hI htk hpm hps
          rcases List.eq_nil_or_concat acc with hacc | ⟨a', y, hacc⟩
          · have HOF : Hid (OfD (r.take (kk + 1)) (acc ++ [pf, pt + 1])) := Lib.hid (by rw [HTK.out]; exact HOI.out.put ⟨p1, p2, p3⟩ (by rw [hacc]; simp))
            have hw3 : (acc.length : Int) - 1 = -1 := by rw [hacc]; rfl
            clear hacc
            go_wp2_with fail
            obtain ⟨x0, x1⟩ := HBX.out
            generalize wr.alloc (.cells #[.int .i64 pf, .int .i64 pt] 49) = W1 at *
            generalize hq1 : wr.heap.size = Q1 at *
            go_quiet (fail)
            have kd := (Kept.refl (fun _ => False) W1).drewN nq
            replace HKW := Lib.hid (HKW.out.then kd)
            replace HRW := Lib.hid (HRW.out.on kd)
            replace x0 := (kd.cell (World.block_lt_of_cell? W1 _ x0) (fun h => h)).trans x0
            replace x1 := (kd.cell (World.block_lt_of_cell? W1 _ x1) (fun h => h)).trans x1
            clear kd HBX
            generalize W1.drewN nq = W2 at *
            go_wp2_with (first
              | (at_builtin; refine wpList_pushG Tryz.underlying24 info_intD rfl (by omega) (by simp [Region.wanted, yielded]) _ _ rfl rfl w3.heap.size _ _ acc [pf, pt + 1] rfl rfl (HRW.out.alloc _) (RowG.new W2 #[.int .i64 pf, .int .i64 (pt + 1)] 3 2 [pf, pt + 1] rfl rfl (by unfold maxLen; omega)) (by have := HAL.out; simp at *; omega) (by have := HKW.out.size; simp; omega) ?_; intro a' c' w4 hown4 hk4 hat4; have HOWN4 := Lib.hid hown4; have HKK4 := Lib.hid hk4; clear hown4 hk4 hat4)
              | fail)
            have HI2 : Hid (OfI w3 w4 (.slice a' (acc ++ [pf, pt + 1]).length c') (acc ++ [pf, pt + 1]) (r.take (kk + 1))) := Lib.hid ⟨HOWN4.out, HOF.out, (HKW.out.then (Kept.alloc _ _ _)).trans HKK4.out (fun _ _ h => h) (fun i hi e => by have := HLT.out i e; omega)⟩
            go_roundw
            case rel => exact ⟨kk + 1, a', c', acc ++ [pf, pt + 1], by omega, by go_num, by first | rfl | (rw [List.length_append]; rfl), HI2⟩
            case measure => simp [intOf]; omega
          · rw [List.concat_eq_append] at hacc
            obtain ⟨m, hm⟩ : ∃ m, m = a'.length := ⟨_, rfl⟩
            have hlen : acc.length = m + 1 := by rw [hacc, hm]; simp
            obtain ⟨g7, rfl⟩ : ∃ g7, a = some ⟨g7, 0, none⟩ := by
              rcases HRW.out.2 with ⟨h, h'⟩ | ⟨g', _, _, h, _⟩
              · omega
              · cases h; exact ⟨g', rfl⟩
            have cy : (wr.alloc (.cells #[.int .i64 pf, .int .i64 pt] 49)).cell? ⟨g7, m, none⟩ = some (.int .i64 y) := by
              obtain ⟨g8, o8, he, _, hat⟩ := HRW.out.row.at (k := m) (by omega)
              obtain ⟨rfl, rfl⟩ : g7 = g8 ∧ 0 = o8 := by injection he with he; injection he with h1 h2; exact ⟨h1, h2⟩
              have h9 := atEI hat
              rw [show EI.z = 1 from rfl, Nat.mul_one, Nat.zero_add] at h9
              rw [h9, hacc, hm]
              simp [List.getD]
            have hfz : (wr.alloc (.cells #[.int .i64 pf, .int .i64 pt] 49)).frozen? ⟨g7, m, none⟩ = false := World.ownsRow.frozenAt HRW.out m
            have hg7 : g7 < wr.heap.size := HLU.out g7 rfl
            have n1 : ¬ g7 = wr.heap.size := by omega
            have m0 : (0 : Int) ≤ (m : Int) := by omega
            have m1 : (m : Int) < (acc.length : Int) := by omega
            have m2 : (m : Int) ≤ 30002 := by have := HAL.out; omega
            have hw2 : IntKind.i64.wrap ((acc.length : Int) - 1) = (m : Int) := by rw [IntWalk.i64_in _ (by have := HAL.out; omega)]; omega
            have hw3 : (acc.length : Int) - 1 = (m : Int) := by omega
            have HACC := Lib.hid hacc; have HM := Lib.hid hm; have HLEN := Lib.hid hlen
            clear hacc hm hlen hg7
            by_cases hle : pf ≤ y
            · have hd : decide (pf ≤ y) = true := decide_eq_true hle
              have HOF : Hid (OfD (r.take (kk + 1)) (a' ++ [max y (pt + 1)])) := Lib.hid (by
                have h1 := HOI.out
                rw [HACC.out] at h1
                rw [HTK.out]; exact h1.merge ⟨p1, p2, p3⟩ HPS.out hle)
              go_wp2_with fail
              obtain ⟨x0, x1⟩ := HBX.out
              generalize wr.alloc (.cells #[.int .i64 pf, .int .i64 pt] 49) = W1 at *
              generalize hq1 : wr.heap.size = Q1 at *
              clear hq1
              go_quiet (fail)
              have kd := (Kept.refl (fun _ => False) W1).drewN nq
              replace HKW := Lib.hid (HKW.out.then kd)
              replace HRW := Lib.hid (HRW.out.on kd)
              replace x0 := (kd.cell (World.block_lt_of_cell? W1 _ x0) (fun h => h)).trans x0
              replace x1 := (kd.cell (World.block_lt_of_cell? W1 _ x1) (fun h => h)).trans x1
              have y0 := (kd.cell (World.block_lt_of_cell? W1 _ cy) (fun h => h)).trans cy
              clear kd HBX
              generalize W1.drewN nq = W2 at *
              have f0 : W2.frozen? ⟨g7, m, none⟩ = false := World.ownsRow.frozenAt HRW.out m
              obtain ⟨X, hX, hXc⟩ : ∃ X, max y (pt + 1) = X ∧ ((X = y ∧ pt + 1 ≤ y) ∨ (X = pt + 1 ∧ y < pt + 1)) := ⟨_, rfl, by omega⟩
              rw [hX] at HOF
              have HI2 : Hid (OfI w3 (W2.drew.setCell ⟨g7, m, none⟩ (.int .i64 X)) (.slice (some ⟨g7, 0, none⟩) acc.length c) (a' ++ [X]) (r.take (kk + 1))) := Lib.hid (by
                have h1 : OwnG EI 3 w3.heap.size W2.drew (.slice (some ⟨g7, 0, none⟩) acc.length c) acc := HRW.out.on (Kept.refl _ _).drew
                have h2 := OwnG.put (x := X) h1 rfl (i := m) (by have := HLEN.out; omega)
                have e1 : acc.set m X = a' ++ [X] := by rw [HACC.out, HM.out]; simp
                rw [e1] at h2
                rw [show m * EI.z = m from Nat.mul_one m] at h2
                exact ⟨h2, HOF.out, (HKW.out.drew).trans (Kept.setCell (fun k => k = g7) W2.drew _ _ rfl) (fun _ _ h => h) (fun i hi e => by have := HLT.out g7 rfl; omega)⟩)
              have HLL : acc.length = (a' ++ [X]).length := by rw [HLEN.out, HM.out]; simp
              have HI3 : Hid (∃ acc2 : List Int, acc.length = acc2.length ∧ OfI w3 (W2.drew.setCell ⟨g7, m, none⟩ (.int .i64 X)) (.slice (some ⟨g7, 0, none⟩) acc2.length c) acc2 (r.take (kk + 1))) := Lib.hid ⟨_, HLL, by rw [← HLL]; exact HI2.out⟩
              clear HRW HLL HI2
              rcases hXc with ⟨rfl, hc⟩ | ⟨rfl, hc⟩
              all_goals
                go_wp2_with fail
                go_still_tail 11, (by kernel_rfl)
                change wpList _ _ _ _ _ W2.drew
                replace y0 : W2.drew.cell? _ = _ := y0
                replace f0 : W2.drew.frozen? _ = _ := f0
                generalize W2.drew = W3 at *
                go_wp2_with fail
                go_roundw
                case rel =>
                  obtain ⟨acc2, hl2, hi2⟩ := HI3.out
                  exact ⟨kk + 1, some ⟨g7, 0, none⟩, c, acc2, by omega, by go_num, by rw [hl2], Lib.hid hi2⟩
                case measure => simp [intOf]; omega
            · have hd : decide (pf ≤ y) = false := decide_eq_false hle
              have HOF : Hid (OfD (r.take (kk + 1)) (acc ++ [pf, pt + 1])) := Lib.hid (by
                have h1 := HOI.out
                rw [HTK.out]
                refine h1.put ⟨p1, p2, p3⟩ fun x hx => ?_
                have hasc := h1.can.asc
                rw [HACC.out] at hx hasc
                rw [List.pairwise_append] at hasc
                rcases List.mem_append.1 hx with e | e
                · have := hasc.2.2 x e y (by simp); show x < pf; omega
                · have : x = y := by simpa using e
                  show x < pf; omega)
              go_wp2_with fail
              obtain ⟨x0, x1⟩ := HBX.out
              generalize wr.alloc (.cells #[.int .i64 pf, .int .i64 pt] 49) = W1 at *
              generalize hq1 : wr.heap.size = Q1 at *
              clear hq1
              go_quiet (fail)
              have kd := (Kept.refl (fun _ => False) W1).drewN nq
              replace HKW := Lib.hid (HKW.out.then kd)
              replace HRW := Lib.hid (HRW.out.on kd)
              replace x0 := (kd.cell (World.block_lt_of_cell? W1 _ x0) (fun h => h)).trans x0
              replace x1 := (kd.cell (World.block_lt_of_cell? W1 _ x1) (fun h => h)).trans x1
              have y0 := (kd.cell (World.block_lt_of_cell? W1 _ cy) (fun h => h)).trans cy
              clear kd HBX
              generalize W1.drewN nq = W2 at *
              go_wp2_with (first
                | (at_builtin; refine wpList_pushG Tryz.underlying24 info_intD rfl (by omega) (by simp [Region.wanted, yielded]) _ _ rfl rfl w3.heap.size _ _ acc [pf, pt + 1] rfl rfl (HRW.out.alloc _) (RowG.new W2 #[.int .i64 pf, .int .i64 (pt + 1)] 3 2 [pf, pt + 1] rfl rfl (by unfold maxLen; omega)) (by have := HAL.out; simp at *; omega) (by have := HKW.out.size; simp; omega) ?_; intro a' c' w4 hown4 hk4 hat4; have HOWN4 := Lib.hid hown4; have HKK4 := Lib.hid hk4; clear hown4 hk4 hat4)
                | fail)
              have HI2 : Hid (OfI w3 w4 (.slice a' (acc ++ [pf, pt + 1]).length c') (acc ++ [pf, pt + 1]) (r.take (kk + 1))) := Lib.hid ⟨HOWN4.out, HOF.out, (HKW.out.then (Kept.alloc _ _ _)).trans HKK4.out (fun _ _ h => h) (fun i hi e => by have := HLT.out i e; omega)⟩
              go_roundw
              case rel => exact ⟨kk + 1, a', c', acc ++ [pf, pt + 1], by omega, by go_num, by first | rfl | (rw [List.length_append]; rfl), HI2⟩
              case measure => simp [intOf]; omega
        · obtain rfl : kk = k := by omega
          have hof := hI.out.of
          rw [List.take_of_length_le (by rw [HRL.out]; exact Nat.le_refl _)] at hof
          have KW := K3.out.then hI.out.kept
          obtain ⟨q0, q1⟩ := HC.out wr KW
          obtain ⟨ra, rcc, he, c2, f2, r0, hset, hend⟩ := ret_set HKA.out (g := Q) (by rw [HQ.out]; exact Nat.le_refl _) HCS.out.1 HCS.out.2 (fun n h => by cases h) KW (setD_ret hI.out.row hof.can)
          obtain ⟨rfl, rfl⟩ : ra = a ∧ rcc = c := by simp at he; exact ⟨he.1.symm, he.2.symm⟩
          have HSET := Lib.hid hset; have HEND := Lib.hid hend
          have HIN : Hid (∀ d, inD acc d = spanIn l d) := Lib.hid fun d => by rw [hof.val d]; exact spanIn_perm (fun p => HPM.out.mem_iff) d
          clear hset hend KW hof hI c2 f2 he
          go_wp2_with fail
          refine bodyPost_ret (v := .tuple #[.agg #[.slice ra acc.length rcc], .int .i64 0]) (by simp [results, Tryz.results24, go_sem, r0]) rfl ⟨_, rfl, HEND.out, acc, HSET.out, HIN.out⟩
end Go.Proofs.YtjglnpijngdpkaaGreatDoor
