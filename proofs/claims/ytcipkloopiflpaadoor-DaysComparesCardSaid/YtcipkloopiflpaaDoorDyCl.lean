/-
  arbaclaw05.DaysCompares returns true.
-/
import Derived.Test.YtcipkloopiflpaaDoorDyAw
import Derived.Test.YtcipkloopiflpaaDoorDyMk
import Derived.Test.YtcipkloopiflpaaDoorDyE
import Derived.Test.YtcipkloopiflpaaDoorDyX
import Derived.Test.YtcipkloopiflpaaDoorDyLn
import Derived.Deep.CutBlock
import Derived.Deep.Cut
namespace Go.Proofs.YtcipkloopiflpaaDoor
open Go.RowKit Go.Shelf
set_option linter.unusedSimpArgs false
set_option linter.unusedVariables false
set_option maxRecDepth 100000

/-- The one's flags within the other's, up to a day. -/
def pwD (f g : List Bool) (k : Nat) : Bool := (List.range k).all fun x => !f.getD x false || g.getD x false
theorem pwD_succ (f g : List Bool) (k : Nat) : pwD f g (k + 1) = (pwD f g k && (!f.getD k false || g.getD k false)) := by unfold pwD; rw [List.range_succ, List.all_append]; simp
theorem pwD_iff {f g : List Bool} {t u : List Int} (ht : CanD t) (hf : ∀ x : Nat, x ≤ 30000 → f.getD x false = inD t (x : Int)) (hg : ∀ x : Nat, x ≤ 30000 → g.getD x false = inD u (x : Int)) :
    pwD f g 30001 = true ↔ ∀ d, inD t d = true → inD u d = true := by
  unfold pwD
  rw [List.all_eq_true]
  constructor
  · intro h d hd
    by_cases d0 : d < 0
    · rw [ht.before d0] at hd; cases hd
    · by_cases d1 : 30001 ≤ d
      · rw [ht.out d1] at hd; cases hd
      · obtain ⟨x, rfl⟩ : ∃ x : Nat, d = (x : Int) := ⟨d.toNat, by omega⟩
        have := h x (by rw [List.mem_range]; omega)
        rw [hf x (by omega), hg x (by omega), hd] at this
        simpa using this
  · intro h x hx
    rw [List.mem_range] at hx
    rw [hf x (by omega), hg x (by omega)]
    have := h (x : Int)
    cases e : inD t (x : Int) with
    | false => rfl
    | true => rw [this e]; rfl
theorem eqD_iff {f g : List Bool} {t u : List Int} (ht : CanD t) (hu : CanD u) (hf : ∀ x : Nat, x ≤ 30000 → f.getD x false = inD t (x : Int)) (hg : ∀ x : Nat, x ≤ 30000 → g.getD x false = inD u (x : Int)) :
    decide (t = u) = (pwD f g 30001 && pwD g f 30001) := by
  rw [Bool.eq_iff_iff, decide_eq_true_iff, Bool.and_eq_true, pwD_iff ht hf hg, pwD_iff hu hg hf]
  constructor
  · rintro rfl; exact ⟨fun _ h => h, fun _ h => h⟩
  · rintro ⟨h1, h2⟩
    refine canD_unique ht hu fun d _ _ => ?_
    rw [Bool.eq_iff_iff]
    exact ⟨h1 d, h2 d⟩
theorem emptyD_iff {f : List Bool} {t : List Int} (hl : f.length = 30001) (ht : CanD t) (hf : ∀ x : Nat, x ≤ 30000 → f.getD x false = inD t (x : Int)) : decide (t = []) = decide (((cntT f : Nat) : Int) = 0) := by
  rw [decide_eq_decide, lenD_ref hl ht hf]
  constructor
  · rintro rfl; rfl
  · intro h
    match t, ht with
    | [], _ => rfl
    | [x], ht => have := ht.even; simp at this
    | a :: b :: r, ht =>
      exfalso
      have h1 : lenSp (spansD (a :: b :: r)) = (b - 1 - a + 1) + lenSp (spansD r) := by
        show lenSp ((a, b - 1) :: spansD r) = _
        unfold lenSp
        simp
      have h2 : a < b := (List.pairwise_cons.1 ht.asc).1 b (by simp)
      have h3 := lenSp_bound (spansD r) fun p hp => spansD_ok ht p (by show p ∈ (a, b - 1) :: spansD r; simp [hp])
      omega
theorem info_pairU : (Tryd.prog.info? 60).map (fun i => (i.zero, i.size, i.bytes)) = some (some (.agg #[.int .u16 0, .int .u16 0]), EU.z, 4) := by kernel_rfl
/-- An append of a row that came in, of whatever length. -/
theorem appendU_run {W : World} {B : Nat} {v y : Value} {xs ys : List (Nat × Nat)} (h : OwnG EU 60 B W v xs) (hy : RowG EU W y ys) (hl : (xs.length + ys.length) * 4 ≤ 140737488355328) (hB : B ≤ W.heap.size) :
    ∃ a c w', (Builtin.append_ #[40, 40] 40 #[v, y]).run Tryd.prog W = .ok (.slice a (xs ++ ys).length c) w' ∧ OwnG EU 60 B w' (.slice a (xs ++ ys).length c) (xs ++ ys) ∧ Kept (fun k => v.ownBlock = some k) W w' := by
  obtain ⟨i0, hi, hz0, hz1, hz2⟩ := info_parts info_pairU
  have key : ∃ v' w', (Builtin.append_ #[40, 40] 40 #[v, y]).run Tryd.prog W = .ok v' w' ∧ OwnG EU 60 B w' v' (xs ++ ys) ∧ Kept (fun k => v.ownBlock = some k) W w' := by
    have hy0 := hy
    rcases hy with ⟨rfl, rfl⟩ | ⟨g, off, cap, rfl, h1, h2, h3, h4⟩
    · exact ⟨v, W, run_append_owned_none W B _ _ _ i0 EU.z Tryd.underlying40 hi v _ _ h, by rw [List.append_nil]; exact h, Kept.refl _ _⟩
    · have hcells : ∀ j u, (flatG EU ys)[j]? = some u → W.cell? ((⟨g, off, none⟩ : Addr).add j) = some u := fun j u hu => by
        have hadd : (⟨g, off, none⟩ : Addr).add j = ⟨g, off + j, none⟩ := by unfold Addr.add; split <;> simp_all
        rw [hadd]
        exact hy0.flat j u hu
      obtain ⟨v', w', hr, ho, hg, _, _⟩ := run_append_own_at (P := Tryd.prog) W B _ _ _ i0 _ EU.z 4 Tryd.underlying40 hi hz0 hz1 hz2 rfl EU.pos v xs.length (flatG EU xs) h ⟨g, off, none⟩ ys.length cap (flatG EU ys)
        (flatG_length ys) hcells (flatG_one ys) (by unfold maxLen; omega) hl hB
      exact ⟨v', w', hr, by unfold OwnG; rw [List.length_append, flatG_append]; exact ho, Kept.ofGrown hg fun k e => e⟩
  obtain ⟨v', w', hr, hf, hk⟩ := key
  obtain ⟨a, c, rfl, _, _⟩ := hf.form
  exact ⟨a, c, w', hr, hf, hk⟩

set_option maxHeartbeats 6400000 in
theorem comparesL_any (w0 : World) (v0 v1 : Value) (l0 l1 : List (Nat × Nat)) (m : Nat) (h0 : RowG EU w0 v0 l0) (h1 : RowG EU w0 v1 l1) (hb0 : ∀ p ∈ l0, p.1 < 65536 ∧ p.2 < 65536) (hb1 : ∀ p ∈ l1, p.1 < 65536 ∧ p.2 < 65536) (hm : m < 256) (hz : l1.length * 4 ≤ 140737488351232) (hT : TabD w0) :
    Calls Tryd.prog 7 #[v0, v1, .int .u8 (m : Int)] w0 fun e w' => e = .returned (.bool true) ∧ Kept (fun _ => False) w0 w' := by
  obtain ⟨la, lc, rfl, hl0, hl1⟩ := h0.form
  obtain ⟨ka, kc, rfl, _, _⟩ := h1.form
  have HV0 := Lib.hid h0; have HV1 := Lib.hid h1; have HB0 := Lib.hid hb0; have HB1 := Lib.hid hb1; have HT := Lib.hid hT; have HZ := Lib.hid hz
  obtain ⟨N, hN⟩ : ∃ N, N = l0.length := ⟨_, rfl⟩
  obtain ⟨M, hM⟩ : ∃ N, N = l1.length := ⟨_, rfl⟩
  rw [← hN] at HV0 hl0 ⊢
  rw [← hM] at HV1 HZ ⊢
  have HN := Lib.hid hN; have HM := Lib.hid hM
  obtain ⟨r, hr⟩ : ∃ r, r = m % 4 := ⟨_, rfl⟩
  have m1 : (m : Int).tmod 4 = (r : Int) := by rw [Int.tmod_eq_emod_of_nonneg (by omega)]; omega
  have m2 : (m : Int) % 4 = (r : Int) := by omega
  have r4 : r < 4 := by omega
  clear h0 h1 hb0 hb1 hT hz hN hM hr
  go_enter Tryd.func7, Tryd.ntmps7
  go_wp2_with fail
  refine (awD_any w0 HT.out).mono ?_
  rintro e w1 ⟨rfl, k1⟩
  have HK1 := Lib.hid k1
  have HW0 := Lib.hid (HV0.out.on k1); have HW1 := Lib.hid (HV1.out.on k1)
  clear k1 HV0 HV1
  go_upto_block 0 with (fail)
  go_cut [1] from 20 to 33 (fun bv wx => ∃ (ba : Option Addr) (bn bc : Nat) (lb : List (Nat × Nat)), bv = .slice ba bn bc ∧ Hid (RowG EU wx (.slice ba bn bc) lb ∧ (∀ p ∈ lb, p.1 < 65536 ∧ p.2 < 65536) ∧ Kept (fun _ => False) w1 wx))
  case first =>
    by_cases r0 : r = 0
    · have q0 : ((r : Int) == 0) = true := by rw [r0]; rfl
      clear m1
      subst r0
      go_wp2_with fail
      go_meet
      exact ⟨_, _, _, l0, rfl, Lib.hid ⟨HW0.out, HB0.out, Kept.refl _ _⟩⟩
    · have q0 : ((r : Int) == 0) = false := by rw [beq_eq_false_iff_ne]; omega
      have q0' : ¬ (r : Int) = 0 := by omega
      by_cases r1 : r = 1
      · have q1 : ((r : Int) == 1) = true := by rw [r1]; rfl
        obtain ⟨k, hk⟩ : ∃ k, k = min N 4 := ⟨_, rfl⟩
        have hmi : min (N : Int) 4 = (k : Int) := by omega
        have hk0 : (0 : Int) ≤ (k : Int) := by omega
        have hkc : (k : Int) ≤ (lc : Int) := by omega
        have hkc2 : k ≤ lc := by omega
        have hk4 : k ≤ 4 := by omega
        have HF : Hid (RowG EU w1 (.slice la k lc) (l0.take k)) := Lib.hid (HW0.out.front (by rw [← HN.out]; omega))
        have hkl : (l0.take k).length = k := by rw [List.length_take, ← HN.out]; omega
        have HKL := Lib.hid hkl
        obtain ⟨a1, c1, w2, hr1, ho1, hk1⟩ := appendU_run (OwnG.new0 w1 60 w1.heap.size (Nat.le_refl _)) (HF.out.on (Kept.alloc (fun _ => False) w1 (.cells #[] 60))) (by rw [hkl]; simp; omega) (by simp)
        rw [List.nil_append, hkl] at hr1 ho1
        have hkk : Kept (fun _ => False) w1 w2 := (Kept.alloc (fun _ => False) w1 (.cells #[] 60)).trans hk1 (fun _ _ h => h) (fun i hi e => by
          have e2 : w1.heap.size = i := by simpa [Value.ownBlock] using e
          omega)
        obtain ⟨a2, c2, w3, hr2, ho2, hk2⟩ := appendU_run ho1 (HW1.out.on hkk) (by rw [hkl, ← HM.out]; have := HZ.out; omega) (by have := hkk.size; omega)
        have hlen : (l0.take k ++ l1).length = k + M := by rw [List.length_append, hkl, HM.out]
        rw [hlen] at hr2 ho2
        have hk3 : Kept (fun _ => False) w1 w3 := hkk.trans hk2 (fun _ _ h => h) (fun i hi e => by have := (ho1.lt i e).1; omega)
        have HR1 := Lib.hid hr1; have HR2 := Lib.hid hr2
        have HRES : Hid (RowG EU w3 (.slice a2 (k + M) c2) (l0.take k ++ l1) ∧ (∀ p ∈ l0.take k ++ l1, p.1 < 65536 ∧ p.2 < 65536) ∧ Kept (fun _ => False) w1 w3) := Lib.hid ⟨by have := ho2.row; first | exact this | (rw [← hlen]; exact this), fun p hp => by
          rcases List.mem_append.1 hp with h | h
          · exact HB0.out p (List.mem_of_mem_take h)
          · exact HB1.out p h, hk3⟩
        have HNIL : Hid (la = none → k = 0 ∧ lc = 0) := Lib.hid fun e => by
          subst e
          rcases HW0.out with ⟨h, h'⟩ | ⟨_, _, _, h, _⟩
          · injection h with _ e2 e3; exact ⟨by omega, e3⟩
          · cases h
        clear hr1 hr2 ho1 ho2 hk1 hk2 hkk hk3 hkl hlen hk m1 q0 q0' r0
        have q0 : ((r : Int) == 0) = false := by rw [beq_eq_false_iff_ne]; omega
        subst r1
        cases la with
        | none =>
          obtain ⟨rfl, rfl⟩ := HNIL.out rfl
          go_wp2_with (first
            | (at_builtin; have _g := HR1; clear _g; refine wpList_appendG_run (by simp [Region.wanted, yielded]) _ _ _ _ rfl _ _ rfl rfl HR1.out ?_; clear HR1)
            | (at_builtin; have _g := HR2; clear _g; refine wpList_appendG_run (by simp [Region.wanted, yielded]) _ _ _ _ rfl _ _ rfl rfl HR2.out ?_; clear HR2)
            | fail)
          go_meet
          exact ⟨_, _, _, _, rfl, by first | exact HRES | (have h := HRES; rw [Nat.zero_add] at h; exact h)⟩
        | some ad =>
          obtain ⟨g, off, pth⟩ := ad
          clear HNIL
          go_wp2_with (first
            | (at_builtin; have _g := HR1; clear _g; refine wpList_appendG_run (by simp [Region.wanted, yielded]) _ _ _ _ rfl _ _ rfl rfl HR1.out ?_; clear HR1)
            | (at_builtin; have _g := HR2; clear _g; refine wpList_appendG_run (by simp [Region.wanted, yielded]) _ _ _ _ rfl _ _ rfl rfl HR2.out ?_; clear HR2)
            | fail)
          go_meet
          exact ⟨_, _, _, _, rfl, by first | exact HRES | (have h := HRES; rw [Nat.zero_add] at h; exact h)⟩
      · have q1 : ((r : Int) == 1) = false := by rw [beq_eq_false_iff_ne]; omega
        have q1' : ¬ (r : Int) = 1 := by omega
        go_wp2_with fail
        go_meet
        exact ⟨_, _, _, l1, rfl, Lib.hid ⟨HW1.out, HB1.out, Kept.refl _ _⟩⟩
  case rest =>
    obtain ⟨ba, bn, bc, lb, rfl, hB⟩ := hcut
    clear m1 m2 r4
    have HKB := Lib.hid (HK1.out.then hB.out.2.2)
    have HWA := Lib.hid (HW0.out.on hB.out.2.2)
    have HRB := Lib.hid hB.out.1; have HBB := Lib.hid hB.out.2.1
    clear hB HW0 HW1 HB1 HZ HK1
    go_wp2_with fail
    refine (makeD_any wc _ l0 HWA.out HB0.out).mono ?_
    rintro e w2 ⟨sv, fv, t, f, rfl, hs, hf, hfl, hin, hfv, k2⟩
    obtain ⟨row, rfl, hrow, hcan⟩ := hs
    obtain ⟨ra, rc, rfl, _, _⟩ := hrow.form
    obtain ⟨fa, fc, rfl, _, _⟩ := hf.form
    obtain ⟨n, hn⟩ : ∃ n, n = t.length := ⟨_, rfl⟩
    rw [← hn] at hrow ⊢
    have HS : Hid (∀ W, Kept (fun _ => False) w2 W → SetD W (.agg #[.slice ra n rc]) t) := Lib.hid fun W k => SetD.on ⟨_, rfl, hrow, hcan⟩ k
    have HF : Hid (∀ W, Kept (fun _ => False) w2 W → RowG EB W (.slice fa 30001 fc) f) := Lib.hid fun W k => by rw [← hfl]; exact hf.on k
    have HFL := Lib.hid hfl
    have HAG : Hid (∀ x : Nat, x ≤ 30000 → f.getD x false = inD t (x : Int)) := Lib.hid fun x hx => by rw [hfv x hx, hin]
    have HCT := Lib.hid hcan
    have HK2 := Lib.hid (HKB.out.then k2)
    have HR2 := Lib.hid (HRB.out.on k2)
    rw [hfl]
    have HA := Lib.hid (Kept.alloc (fun _ => False) w2 (.cells #[.slice ra n rc] 27))
    have c0 : (w2.alloc (.cells #[.slice ra n rc] 27)).cell? ⟨w2.heap.size, 0, none⟩ = some (.slice ra n rc) := by go_simp
    have HC : Hid (∀ W, Kept (fun _ => False) (w2.alloc (.cells #[.slice ra n rc] 27)) W → W.cell? ⟨w2.heap.size, 0, none⟩ = some (.slice ra n rc)) := Lib.hid fun W k => (k.cell (p := ⟨w2.heap.size, 0, none⟩) (by simp) (fun h => h)).trans c0
    clear c0 hrow hcan hf hfl hin hfv k2 hn HWA HRB HKB
    go_wp2_with fail
    refine (makeD_any _ _ lb (HR2.out.on HA.out) HBB.out).mono ?_
    obtain ⟨w3, hw3⟩ : ∃ w, w = w2.alloc (.cells #[.slice ra n rc] 27) := ⟨_, rfl⟩
    rw [← hw3] at HA HC ⊢
    clear hw3
    rintro e w4 ⟨sv, gv, u, g, rfl, hs, hg, hgl, hin, hgv, k4⟩
    obtain ⟨row, rfl, hrow, hcan⟩ := hs
    obtain ⟨qa, qc, rfl, _, _⟩ := hrow.form
    obtain ⟨ga, gc, rfl, _, _⟩ := hg.form
    obtain ⟨n2, hn⟩ : ∃ n, n = u.length := ⟨_, rfl⟩
    rw [← hn] at hrow ⊢
    have HJ4 := Lib.hid (HA.out.then k4)
    have HSU : Hid (∀ W, Kept (fun _ => False) w4 W → SetD W (.agg #[.slice qa n2 qc]) u) := Lib.hid fun W k => SetD.on ⟨_, rfl, hrow, hcan⟩ k
    have HG : Hid (∀ W, Kept (fun _ => False) w4 W → RowG EB W (.slice ga 30001 gc) g) := Lib.hid fun W k => by rw [← hgl]; exact hg.on k
    have HAU : Hid (∀ x : Nat, x ≤ 30000 → g.getD x false = inD u (x : Int)) := Lib.hid fun x hx => by rw [hgv x hx, hin]
    have HCU := Lib.hid hcan
    have HGL := Lib.hid hgl
    rw [hgl]
    have HA4 := Lib.hid (Kept.alloc (fun _ => False) w4 (.cells #[.slice qa n2 qc] 27))
    have c0 : (w4.alloc (.cells #[.slice qa n2 qc] 27)).cell? ⟨w4.heap.size, 0, none⟩ = some (.slice qa n2 qc) := by go_simp
    have HC4 : Hid (∀ W, Kept (fun _ => False) (w4.alloc (.cells #[.slice qa n2 qc] 27)) W → W.cell? ⟨w2.heap.size, 0, none⟩ = some (.slice ra n rc) ∧ W.cell? ⟨w4.heap.size, 0, none⟩ = some (.slice qa n2 qc)) := Lib.hid fun W k => ⟨HC.out W (k4.then (HA4.out.then k)), (k.cell (p := ⟨w4.heap.size, 0, none⟩) (by simp) (fun h => h)).trans c0⟩
    clear c0 hrow hcan hg hgl hin hgv k4 hn HR2 HC
    obtain ⟨w5, hw5⟩ : ∃ w, w = w4.alloc (.cells #[.slice qa n2 qc] 27) := ⟨_, rfl⟩
    have HW5 := Lib.hid hw5
    rw [← hw5] at HA4 HC4
    clear hw5
    have HF5 := Lib.hid (HF.out w5 (HJ4.out.then HA4.out)); have HG5 := Lib.hid (HG.out w5 HA4.out)
    have HJ5 := Lib.hid (HJ4.out.then HA4.out)
    go_wp2_with fail
    rw [← HW5.out]
    go_loopw [13, 14, 15, 54] (fun pv qv _ iv wr => ∃ (k : Nat) (p q : Bool), k ≤ 30001 ∧ iv = .int .i64 (k : Int) ∧ pv = .bool p ∧ qv = .bool q ∧ Hid (p = pwD f g k ∧ q = pwD g f k) ∧ wr = w5) (fun _ _ _ iv _ => 30001 - (intOf iv).toNat)
    case atStart => exact ⟨0, true, true, Nat.zero_le _, rfl, rfl, rfl, Lib.hid ⟨rfl, rfl⟩, rfl⟩
    case round =>
      obtain ⟨k, p, q, hk, rfl, rfl, rfl, hI, rfl⟩ := hrel
      by_cases hlt : k < 30001
      · have l1 : (k : Int) < 30001 := by omega
        have l0' : (0 : Int) ≤ (k : Int) := by omega
        obtain ⟨x1, o1, rfl, hx1, ha1⟩ := HF5.out.at (k := k) (by rw [HFL.out]; exact hlt)
        obtain ⟨x2, o2, rfl, hx2, ha2⟩ := HG5.out.at (k := k) (by rw [HGL.out]; exact hlt)
        have hs1 := pwD_succ f g k
        have hs2 := pwD_succ g f k
        rw [← hI.out.1] at hs1
        rw [← hI.out.2] at hs2
        change AtG EB wr x1 (o1 + k * 1) (f.getD k false) at ha1
        change AtG EB wr x2 (o2 + k * 1) (g.getD k false) at ha2
        rw [Nat.mul_one] at ha1 ha2
        generalize f.getD k false = b1 at ha1 hs1 hs2
        generalize g.getD k false = b2 at ha2 hs1 hs2
        have c1 := atEB ha1; have c2 := atEB ha2
        have HS1 := Lib.hid hs1.symm; have HS2 := Lib.hid hs2.symm
        clear ha1 ha2 hs1 hs2 hI hx1 hx2
        cases p <;> cases q <;> cases b1 <;> cases b2
        all_goals
          go_wp2_with fail
          go_roundw
          case rel => exact ⟨k + 1, _, _, by omega, by go_num, rfl, rfl, Lib.hid ⟨HS1.out, HS2.out⟩, by first | rfl | trivial⟩
          case measure => simp [intOf]; omega
      · obtain rfl : k = 30001 := by omega
        have hp := hI.out.1; have hq := hI.out.2
        have hpi := pwD_iff HCT.out HAG.out HAU.out
        have hqi := pwD_iff HCU.out HAU.out HAG.out
        have hei := eqD_iff HCT.out HCU.out HAG.out HAU.out
        rw [← hp] at hpi
        rw [← hq] at hqi
        rw [← hp, ← hq] at hei
        have hem := emptyD_iff HFL.out HCT.out HAG.out
        have HWI : Hid (∀ W, Kept (fun _ => False) wr W → Calls Tryd.prog 28 #[.agg #[.slice ra n rc], .agg #[.slice qa n2 qc]] W fun e w' => e = .returned (.bool p) ∧ Kept (fun _ => False) W w') := Lib.hid fun W kk => (dayWithin_any _ _ t u W (HS.out W (HJ5.out.then kk)) (HSU.out W (HA4.out.then kk))).mono (by
          rintro e w' ⟨b, rfl, hb, k9⟩
          obtain rfl : b = p := by rw [Bool.eq_iff_iff, hb, hpi]
          exact ⟨rfl, k9⟩)
        have HWJ : Hid (∀ W, Kept (fun _ => False) wr W → Calls Tryd.prog 28 #[.agg #[.slice qa n2 qc], .agg #[.slice ra n rc]] W fun e w' => e = .returned (.bool q) ∧ Kept (fun _ => False) W w') := Lib.hid fun W kk => (dayWithin_any _ _ u t W (HSU.out W (HA4.out.then kk)) (HS.out W (HJ5.out.then kk))).mono (by
          rintro e w' ⟨b, rfl, hb, k9⟩
          obtain rfl : b = q := by rw [Bool.eq_iff_iff, hb, hqi]
          exact ⟨rfl, k9⟩)
        obtain ⟨pq, hpq⟩ : ∃ b, b = (p && q) := ⟨_, rfl⟩
        rw [← hpq] at hei
        have HEQ : Hid (∀ W, Kept (fun _ => False) wr W → Calls Tryd.prog 15 #[.agg #[.slice ra n rc], .agg #[.slice qa n2 qc]] W fun e w' => e = .returned (.bool pq) ∧ Kept (fun _ => False) W w') := Lib.hid fun W kk => by rw [← hei]; exact dayEqual_any _ _ t u W (HS.out W (HJ5.out.then kk)) (HSU.out W (HA4.out.then kk))
        have HEJ : Hid (∀ W, Kept (fun _ => False) wr W → Calls Tryd.prog 15 #[.agg #[.slice qa n2 qc], .agg #[.slice ra n rc]] W fun e w' => e = .returned (.bool pq) ∧ Kept (fun _ => False) W w') := Lib.hid fun W kk => by rw [← hei, show decide (t = u) = decide (u = t) by rw [decide_eq_decide]; exact eq_comm]; exact dayEqual_any _ _ u t W (HSU.out W (HA4.out.then kk)) (HS.out W (HJ5.out.then kk))
        obtain ⟨em, hem2⟩ : ∃ b, b = decide (t = []) := ⟨_, rfl⟩
        obtain ⟨cn, hcn⟩ : ∃ c : Int, c = ((cntT f : Nat) : Int) := ⟨_, rfl⟩
        rw [← hcn, ← hem2] at hem
        have hem3 : (cn == 0) = em := by rw [hem, Bool.eq_iff_iff, beq_iff_eq, decide_eq_true_iff]
        have HEM : Hid (∀ W, Kept (fun _ => False) wr W → Calls Tryd.prog 14 #[.agg #[.slice ra n rc]] W fun e w' => e = .returned (.bool em) ∧ Kept (fun _ => False) W w') := Lib.hid fun W kk => by rw [hem2]; exact dayEmpty_any _ t W (HS.out W (HJ5.out.then kk))
        have HRL : Hid (∀ W, Kept (fun _ => False) wr W → Calls Tryd.prog 29 #[.slice fa 30001 fc] W fun e w' => e = .returned (.int .i64 cn) ∧ W = w') := Lib.hid fun W kk => by
          rw [hcn]
          have h9 := rlenD_any W _ f (HF.out W (HJ5.out.then kk)) (by rw [HFL.out]; omega)
          exact h9
        have HPQ := Lib.hid hpq
        obtain ⟨cc1, cc2⟩ := HC4.out wr (Kept.refl _ _)
        have HCC : Hid (∀ W, Kept (fun _ => False) wr W → W.cell? ⟨w2.heap.size, 0, none⟩ = some (.slice ra n rc) ∧ W.cell? ⟨w4.heap.size, 0, none⟩ = some (.slice qa n2 qc)) := HC4
        have HKF := Lib.hid (HK2.out.then HJ5.out)
        clear hp hq hpi hqi hei hem hpq hem2 hcn hI HC4 HS HSU HF HG HF5 HG5 HAG HAU HCT HCU HFL HGL HBB HB0 HJ4 HJ5 HA HA4 hk hlt HW5 HK2
        have hbp : (p == p) = true := by cases p <;> rfl
        have hbq : (q == q) = true := by cases q <;> rfl
        have hbm : (em == em) = true := by cases em <;> rfl
        have hpp := HPQ.out
        cases p <;> cases q
        all_goals
          simp only [Bool.and_true, Bool.and_false, Bool.true_and, Bool.false_and] at hpp
          subst hpp
          clear hbp hbq
          go_wp2_with fail
          refine (HWI.out _ (Kept.refl _ _)).mono ?_
          rintro e w6 ⟨rfl, k6⟩
          have HJ6 := Lib.hid k6
          obtain ⟨d1, d2⟩ := HCC.out w6 k6
          clear k6 cc1 cc2
          go_wp2_with fail
          refine (HWJ.out _ HJ6.out).mono ?_
          rintro e w7 ⟨rfl, k7⟩
          have HJ7 := Lib.hid (HJ6.out.then k7)
          obtain ⟨e1, e2⟩ := HCC.out w7 HJ7.out
          clear k7 d1 d2 HJ6
          go_wp2_with fail
          refine (HEQ.out _ HJ7.out).mono ?_
          rintro e w8 ⟨rfl, k8⟩
          have HJ8 := Lib.hid (HJ7.out.then k8)
          obtain ⟨d1, d2⟩ := HCC.out w8 HJ8.out
          clear k8 e1 e2 HJ7
          go_wp2_with fail
          refine (HEJ.out _ HJ8.out).mono ?_
          rintro e w9 ⟨rfl, k9⟩
          have HJ9 := Lib.hid (HJ8.out.then k9)
          obtain ⟨e1, e2⟩ := HCC.out w9 HJ9.out
          clear k9 d1 d2 HJ8
          go_wp2_with fail
          refine (HEM.out _ HJ9.out).mono ?_
          rintro e w10 ⟨rfl, k10⟩
          have HJ10 := Lib.hid (HJ9.out.then k10)
          clear k10 e1 e2 HJ9
          go_wp2_with fail
          refine (HRL.out _ HJ10.out).mono ?_
          rintro e w11 ⟨rfl, rfl⟩
          have HE := Lib.hid (HKF.out.then HJ10.out)
          clear HJ10
          go_wp2_with fail
          go_ret
          exact ⟨rfl, HE.out⟩
end Go.Proofs.YtcipkloopiflpaaDoor
