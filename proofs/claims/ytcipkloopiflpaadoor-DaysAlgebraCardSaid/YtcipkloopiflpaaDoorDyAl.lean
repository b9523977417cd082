/-
  arbaclaw05.DaysAlgebra returns true.
-/
import Derived.Test.YtcipkloopiflpaaDoorDyAw
import Derived.Test.YtcipkloopiflpaaDoorDyMk
import Derived.Test.YtcipkloopiflpaaDoorDyIs
import Derived.Deep.CutBlock
import Derived.Deep.Cut
import Derived.Deep.RegionHeld
import Derived.Deep.RegionHeld3
namespace Go.Proofs.YtcipkloopiflpaaDoor
open Go.RowKit Go.Shelf
set_option linter.unusedSimpArgs false
set_option linter.unusedVariables false
set_option maxRecDepth 100000

/-- A row of flags of one's own. -/
def ZD (B : Nat) (W : World) (M g : Nat) : Prop := ∃ s : List Bool, OwnG EB 4 B W (.slice (some ⟨g, 0, none⟩) M M) s ∧ s.length = M
theorem ZD.on {B M g : Nat} {a b : World} (h : ZD B a M g) (hk : Kept (fun _ => False) a b) : ZD B b M g := by
  obtain ⟨s, h1, h2⟩ := h
  exact ⟨s, h1.on hk, h2⟩
theorem mkZ {B : Nat} (W : World) (M : Nat) (hM : M ≤ 30001) (hB : B ≤ W.heap.size) :
    ∃ W', (Instr.makeSlice 35 (.int .i64 (M : Int)) (.int .i64 (M : Int))).run Tryd.prog W = .ok (.slice (some ⟨W.heap.size, 0, none⟩) M M) W' ∧ ZD B W' M W.heap.size ∧ Kept (fun _ => False) W W' ∧ W.heap.size < W'.heap.size := by
  obtain ⟨i0, hi, hz0, hz1, hz2⟩ := info_parts info_boolD
  obtain ⟨w', hr, ho, hg⟩ := run_make_full (P := Tryd.prog) W B _ _ i0 _ 1 Tryd.underlying35 hi hz0 hz1 .i64 .i64 M (by rw [hz2]; omega) (by unfold maxLen; omega) hB
  obtain ⟨s, h1, h2, _⟩ := made_flags ho
  refine ⟨w', hr, ⟨s, h1, h2⟩, Kept.ofBelow (fun _ => False) ((Below.refl _ W).grown hg (Nat.le_refl _) (fun k e => by cases e)), ?_⟩
  exact (h1.lt W.heap.size rfl).2
/-- A make whose run is known, as a step of a region that draws its order. -/
theorem step_make_run {P : Program} {w : World} {ops : Array Oper} {o : Oper} {a : Act} {K : Act → World → Prop} {Q : Exit → Act → World → Prop} {E : Prop} (hw : Region.wanted o (yielded ops a.tmps) = true) (l c : Operand) (t : TypeId)
    (ho : o.op = .makeSlice t l c) (x y : Value) (hl : a.eval l = x) (hc : a.eval c = y) {v' : Value} {w' : World}
    (hr : (Instr.makeSlice t x y).run P w = .ok v' w') (h : K (a.put o.dst v') w') :
    if Region.wanted o (yielded ops a.tmps) = true then Oper.wp P o a w K Q else E := by
  rw [if_pos hw]
  unfold Oper.wp
  simp [execOp, ho, hl, hc, hr, Result.andThen]
  exact h

/-- A row of flags of one's own, written up to a day. -/
structure RowK (B : Nat) (wr : World) (M g : Nat) (F : Nat → Bool) (k : Nat) (a : List Bool) : Prop where
  row : OwnG EB 4 B wr (.slice (some ⟨g, 0, none⟩) M M) a
  len : a.length = M
  val : ∀ d : Nat, d < k → a.getD d false = F d
theorem RowK.on {S : Nat → Prop} {B M g k : Nat} {F : Nat → Bool} {a : List Bool} {w w' : World} (h : RowK B w M g F k a) (hk : Kept S w w') (hS : ¬ S g) : RowK B w' M g F k a :=
  ⟨h.row.kept hk (fun q e => by have e2 : g = q := by simpa [Value.ownBlock] using e
                                subst e2; exact hS), h.len, h.val⟩
theorem RowK.cell {B M g k : Nat} {F : Nat → Bool} {a : List Bool} {w : World} (h : RowK B w M g F k a) {c : Nat} (hc : c < M) : w.cell? ⟨g, c, none⟩ = some (.bool (a.getD c false)) ∧ w.frozen? ⟨g, c, none⟩ = false := by
  obtain ⟨g', off, he, _, hat⟩ := h.row.row.at (k := c) (by rw [h.len]; exact hc)
  obtain ⟨rfl, rfl⟩ : g = g' ∧ 0 = off := by injection he with he; injection he with h1 h2; exact ⟨h1, h2⟩
  have h9 := atEB hat
  rw [show EB.z = 1 from rfl, Nat.mul_one, Nat.zero_add] at h9
  exact ⟨h9, h.row.cellsC.2.1 _⟩
theorem RowK.put {B M g k : Nat} {F : Nat → Bool} {a : List Bool} {w : World} (h : RowK B w M g F k a) (hk : k < M) (b : Bool) (hb : b = F k) : RowK B (w.setCell ⟨g, k, none⟩ (.bool b)) M g F (k + 1) (a.set k b) := by
  have h2 := OwnG.put (x := b) h.row h.len.symm (i := k) hk
  rw [show k * EB.z = k from Nat.mul_one k] at h2
  refine ⟨h2, by rw [List.length_set]; exact h.len, fun d hd => ?_⟩
  by_cases e : d = k
  · subst e
    simp [List.getD, h.len, hk, hb]
  · have h4 : (a.set k b).getD d false = a.getD d false := by simp only [List.getD, List.getElem?_set]; rw [if_neg (fun hh => e hh.symm)]
    rw [h4]
    exact h.val d (by omega)
theorem RowK.set {B M g k q : Nat} {F : Nat → Bool} {a : List Bool} {w : World} (h : RowK B w M g F k a) (hq : g ≠ q) (j : Nat) (v : Value) : RowK B (w.setCell ⟨q, j, none⟩ v) M g F k a :=
  h.on (Kept.setCell (fun i => i = q) w ⟨q, j, none⟩ v rfl) hq
/-- What the law's loop has made. -/
structure AlgI (wB wr : World) (M g1 g2 g3 g4 : Nat) (f g : List Bool) (k : Nat) : Prop where
  r1 : ∃ a, RowK wB.heap.size wr M g1 (fun d => f.getD d false || g.getD d false) k a
  r2 : ∃ a, RowK wB.heap.size wr M g2 (fun d => f.getD d false && g.getD d false) k a
  r3 : ∃ a, RowK wB.heap.size wr M g3 (fun d => f.getD d false && !g.getD d false) k a
  r4 : ∃ a, RowK wB.heap.size wr M g4 (fun d => !f.getD d false) k a
  kept : Kept (fun q => q = g1 ∨ q = g2 ∨ q = g3 ∨ q = g4) wB wr
theorem zd_rowK {B M g : Nat} {F : Nat → Bool} {W : World} (h : ZD B W M g) : ∃ a, RowK B W M g F 0 a := by
  obtain ⟨s, h1, h2⟩ := h
  exact ⟨s, h1, h2, fun d hd => by omega⟩
theorem AlgI.next {wB wr : World} {M g1 g2 g3 g4 k : Nat} {f g : List Bool} (h : AlgI wB wr M g1 g2 g3 g4 f g k) (hk : k < M) (hne : g1 ≠ g2 ∧ g1 ≠ g3 ∧ g1 ≠ g4 ∧ g2 ≠ g3 ∧ g2 ≠ g4 ∧ g3 ≠ g4) (b1 b2 : Bool) (e1 : b1 = f.getD k false) (e2 : b2 = g.getD k false) :
    AlgI wB ((((wr.setCell ⟨g1, k, none⟩ (.bool (b1 || b2))).setCell ⟨g2, k, none⟩ (.bool (b1 && b2))).setCell ⟨g3, k, none⟩ (.bool (b1 && !b2))).setCell ⟨g4, k, none⟩ (.bool (!b1))) M g1 g2 g3 g4 f g (k + 1) := by
  obtain ⟨n1, n2, n3, n4, n5, n6⟩ := hne
  obtain ⟨⟨a1, h1⟩, ⟨a2, h2⟩, ⟨a3, h3⟩, ⟨a4, h4⟩, hkk⟩ := h
  refine ⟨⟨_, ((((h1.put hk (b1 || b2) (by rw [e1, e2])).set n1 k _).set n2 k _).set n3 k _)⟩, ⟨_, ((((h2.set n1.symm k _).put hk (b1 && b2) (by rw [e1, e2])).set n4 k _).set n5 k _)⟩,
    ⟨_, ((((h3.set n2.symm k _).set n4.symm k _).put hk (b1 && !b2) (by rw [e1, e2])).set n6 k _)⟩, ⟨_, ((((h4.set n3.symm k _).set n5.symm k _).set n6.symm k _).put hk (!b1) (by rw [e1]))⟩, ?_⟩
  have s : ∀ (W : World) (q : Nat) (v : Value), (q = g1 ∨ q = g2 ∨ q = g3 ∨ q = g4) → Kept (fun q => q = g1 ∨ q = g2 ∨ q = g3 ∨ q = g4) W (W.setCell ⟨q, k, none⟩ v) := fun W q v hq => (Kept.setCell (fun i => i = q) W ⟨q, k, none⟩ v rfl).mono (fun i _ e => by subst e; exact hq)
  have tr : ∀ {a b c : World}, Kept (fun q => q = g1 ∨ q = g2 ∨ q = g3 ∨ q = g4) a b → Kept (fun q => q = g1 ∨ q = g2 ∨ q = g3 ∨ q = g4) b c → Kept (fun q => q = g1 ∨ q = g2 ∨ q = g3 ∨ q = g4) a c := fun h k => h.trans k (fun _ _ h => h) (fun _ _ h => h)
  exact tr (tr (tr (tr hkk (s _ g1 _ (Or.inl rfl))) (s _ g2 _ (Or.inr (Or.inl rfl)))) (s _ g3 _ (Or.inr (Or.inr (Or.inl rfl))))) (s _ g4 _ (Or.inr (Or.inr (Or.inr rfl))))

set_option maxHeartbeats 12800000 in
theorem algebraL_any (w0 : World) (v0 v1 : Value) (l0 l1 : List (Nat × Nat)) (h0 : RowG EU w0 v0 l0) (h1 : RowG EU w0 v1 l1) (hb0 : ∀ p ∈ l0, p.1 < 65536 ∧ p.2 < 65536) (hb1 : ∀ p ∈ l1, p.1 < 65536 ∧ p.2 < 65536) (hT : TabD w0) :
    Calls Tryd.prog 4 #[v0, v1] w0 fun e w' => e = .returned (.bool true) ∧ Kept (fun _ => False) w0 w' := by
  obtain ⟨la, lc, rfl, _, _⟩ := h0.form
  obtain ⟨ka, kc, rfl, _, _⟩ := h1.form
  have HV0 := Lib.hid h0; have HV1 := Lib.hid h1; have HB0 := Lib.hid hb0; have HB1 := Lib.hid hb1; have HT := Lib.hid hT
  obtain ⟨N, hN⟩ : ∃ N, N = l0.length := ⟨_, rfl⟩
  obtain ⟨M1, hM⟩ : ∃ N, N = l1.length := ⟨_, rfl⟩
  rw [← hN] at HV0 ⊢
  rw [← hM] at HV1 ⊢
  clear h0 h1 hb0 hb1 hT hN hM
  go_enter Tryd.func4, Tryd.ntmps4
  go_wp2_with fail
  refine (awD_any w0 HT.out).mono ?_
  rintro e w1 ⟨rfl, k1⟩
  have HK1 := Lib.hid k1
  have HW0 := Lib.hid (HV0.out.on k1); have HW1 := Lib.hid (HV1.out.on k1)
  clear k1 HV0 HV1
  go_wp2_with fail
  refine (makeD_any w1 _ l0 HW0.out HB0.out).mono ?_
  rintro e w2 ⟨sv, fv, t, f, rfl, hs, hf, hfl, hin, hfv, k2⟩
  obtain ⟨row, rfl, hrow, hcan⟩ := hs
  obtain ⟨ra, rc, rfl, _, _⟩ := hrow.form
  obtain ⟨fa, fc, rfl, _, _⟩ := hf.form
  obtain ⟨n, hn⟩ : ∃ n, n = t.length := ⟨_, rfl⟩
  obtain ⟨M, hM⟩ : ∃ M, M = f.length := ⟨_, rfl⟩
  rw [← hn] at hrow ⊢
  rw [← hM] at hf ⊢
  have hMb : M ≤ 30001 := by omega
  have HM : Hid (M = 30001) := Lib.hid (by omega)
  have HFL : Hid (f.length = M) := Lib.hid hM.symm
  have HS : Hid (∀ W, Kept (fun _ => False) w2 W → SetD W (.agg #[.slice ra n rc]) t) := Lib.hid fun W k => SetD.on ⟨_, rfl, hrow, hcan⟩ k
  have HF : Hid (∀ W, Kept (fun _ => False) w2 W → RowG EB W (.slice fa M fc) f) := Lib.hid fun W k => hf.on k
  have HAG : Hid (∀ x : Nat, x ≤ 30000 → f.getD x false = inD t (x : Int)) := Lib.hid fun x hx => by rw [hfv x hx, hin]
  have HK2 := Lib.hid (HK1.out.then k2)
  have HR2 := Lib.hid (HW1.out.on k2)
  have HA := Lib.hid (Kept.alloc (fun _ => False) w2 (.cells #[.slice ra n rc] 27))
  have c0 : (w2.alloc (.cells #[.slice ra n rc] 27)).cell? ⟨w2.heap.size, 0, none⟩ = some (.slice ra n rc) := by go_simp
  have HC : Hid (∀ W, Kept (fun _ => False) (w2.alloc (.cells #[.slice ra n rc] 27)) W → W.cell? ⟨w2.heap.size, 0, none⟩ = some (.slice ra n rc)) := Lib.hid fun W k => (k.cell (p := ⟨w2.heap.size, 0, none⟩) (by simp) (fun h => h)).trans c0
  clear c0 hrow hcan hf hfl hin hfv k2 hn hM HW0 HW1 HK1 HB0
  go_wp2_with fail
  refine (makeD_any _ _ l1 (HR2.out.on HA.out) HB1.out).mono ?_
  obtain ⟨w3, hw3⟩ : ∃ w, w = w2.alloc (.cells #[.slice ra n rc] 27) := ⟨_, rfl⟩
  rw [← hw3] at HA HC ⊢
  clear hw3
  rintro e w4 ⟨sv, gv, u, g, rfl, hs, hg, hgl, hin, hgv, k4⟩
  obtain ⟨row, rfl, hrow, hcan⟩ := hs
  obtain ⟨qa, qc, rfl, _, _⟩ := hrow.form
  obtain ⟨ga, gc, rfl, _, _⟩ := hg.form
  obtain ⟨n2, hn⟩ : ∃ n, n = u.length := ⟨_, rfl⟩
  obtain ⟨M2, hM2⟩ : ∃ M, M = g.length := ⟨_, rfl⟩
  rw [← hn] at hrow ⊢
  rw [← hM2] at hg ⊢
  obtain rfl : M2 = M := by have := HM.out; omega
  have HGL : Hid (g.length = M2) := Lib.hid hM2.symm
  have HJ4 := Lib.hid (HA.out.then k4)
  have HSU : Hid (∀ W, Kept (fun _ => False) w4 W → SetD W (.agg #[.slice qa n2 qc]) u) := Lib.hid fun W k => SetD.on ⟨_, rfl, hrow, hcan⟩ k
  have HG : Hid (∀ W, Kept (fun _ => False) w4 W → RowG EB W (.slice ga M2 gc) g) := Lib.hid fun W k => hg.on k
  have HAU : Hid (∀ x : Nat, x ≤ 30000 → g.getD x false = inD u (x : Int)) := Lib.hid fun x hx => by rw [hgv x hx, hin]
  have HA4 := Lib.hid (Kept.alloc (fun _ => False) w4 (.cells #[.slice qa n2 qc] 27))
  have c0 : (w4.alloc (.cells #[.slice qa n2 qc] 27)).cell? ⟨w4.heap.size, 0, none⟩ = some (.slice qa n2 qc) := by go_simp
  have HC4 : Hid (∀ W, Kept (fun _ => False) (w4.alloc (.cells #[.slice qa n2 qc] 27)) W → W.cell? ⟨w2.heap.size, 0, none⟩ = some (.slice ra n rc) ∧ W.cell? ⟨w4.heap.size, 0, none⟩ = some (.slice qa n2 qc)) := Lib.hid fun W k => ⟨HC.out W (k4.then (HA4.out.then k)), (k.cell (p := ⟨w4.heap.size, 0, none⟩) (by simp) (fun h => h)).trans c0⟩
  clear c0 hrow hcan hg hgl hin hgv k4 hn hM2 HR2 HC HB1
  obtain ⟨w5, hw5⟩ : ∃ w, w = w4.alloc (.cells #[.slice qa n2 qc] 27) := ⟨_, rfl⟩
  have HW5 := Lib.hid hw5
  rw [← hw5] at HA4 HC4
  clear hw5
  have HJ5 := Lib.hid (HJ4.out.then HA4.out)
  obtain ⟨M, hMM⟩ : ∃ M, M = M2 := ⟨_, rfl⟩
  subst hMM
  go_wp2_with fail
  rw [← HW5.out]
  go_cut [11, 12, 13, 14] from 36 to 47 (fun a b c d wx => ∃ g1 g2 g3 g4 : Nat, a = .slice (some ⟨g1, 0, none⟩) M M ∧ b = .slice (some ⟨g2, 0, none⟩) M M ∧ c = .slice (some ⟨g3, 0, none⟩) M M ∧ d = .slice (some ⟨g4, 0, none⟩) M M ∧ Hid (ZD w5.heap.size wx M g1 ∧ ZD w5.heap.size wx M g2 ∧ ZD w5.heap.size wx M g3 ∧ ZD w5.heap.size wx M g4 ∧ (g1 ≠ g2 ∧ g1 ≠ g3 ∧ g1 ≠ g4 ∧ g2 ≠ g3 ∧ g2 ≠ g4 ∧ g3 ≠ g4) ∧ Kept (fun _ => False) w5 wx))
  case first =>
    refine wp_region_held_drew (S := fun _ => True) (by kernel_rfl) trivial (fun _ => ?_)
    have KD := Lib.hid ((Kept.refl (fun _ => False) w5).drew)
    generalize w5.drew = Wd at KD ⊢
    refine wpAnyH_take (i := 0) (v := .slice fa M fc) rfl (by kernel_rfl) (by kernel_rfl) (by kernel_rfl) (fun _ _ _ h => h) (Or.inl ⟨by simp [Region.wanted, yielded], fun W hW => by go_simp⟩) trivial ?_
    try (simp only [Act.put, List.getElem_toArray, List.getElem_cons_succ, List.getElem_cons_zero, List.setIfInBounds_toArray, List.set_cons_zero, List.set_cons_succ])
    refine wpAnyH_take (i := 1) (v := .int .i64 (M : Int)) rfl (by kernel_rfl) (by kernel_rfl) (by kernel_rfl) (fun _ _ _ h => h) (Or.inl ⟨by simp [Region.wanted, yielded], fun W hW => by go_simp⟩) trivial ?_
    try (simp only [Act.put, List.getElem_toArray, List.getElem_cons_succ, List.getElem_cons_zero, List.setIfInBounds_toArray, List.set_cons_zero, List.set_cons_succ])
    refine wpAnyH_take (i := 3) (v := .slice fa M fc) rfl (by kernel_rfl) (by kernel_rfl) (by kernel_rfl) (fun _ _ _ h => h) (Or.inl ⟨by simp [Region.wanted, yielded], fun W hW => by go_simp⟩) trivial ?_
    try (simp only [Act.put, List.getElem_toArray, List.getElem_cons_succ, List.getElem_cons_zero, List.setIfInBounds_toArray, List.set_cons_zero, List.set_cons_succ])
    refine wpAnyH_take (i := 4) (v := .int .i64 (M : Int)) rfl (by kernel_rfl) (by kernel_rfl) (by kernel_rfl) (fun _ _ _ h => h) (Or.inl ⟨by simp [Region.wanted, yielded], fun W hW => by go_simp⟩) trivial ?_
    try (simp only [Act.put, List.getElem_toArray, List.getElem_cons_succ, List.getElem_cons_zero, List.setIfInBounds_toArray, List.set_cons_zero, List.set_cons_succ])
    refine wpAnyH_take (i := 6) (v := .slice fa M fc) rfl (by kernel_rfl) (by kernel_rfl) (by kernel_rfl) (fun _ _ _ h => h) (Or.inl ⟨by simp [Region.wanted, yielded], fun W hW => by go_simp⟩) trivial ?_
    try (simp only [Act.put, List.getElem_toArray, List.getElem_cons_succ, List.getElem_cons_zero, List.setIfInBounds_toArray, List.set_cons_zero, List.set_cons_succ])
    refine wpAnyH_take (i := 7) (v := .int .i64 (M : Int)) rfl (by kernel_rfl) (by kernel_rfl) (by kernel_rfl) (fun _ _ _ h => h) (Or.inl ⟨by simp [Region.wanted, yielded], fun W hW => by go_simp⟩) trivial ?_
    try (simp only [Act.put, List.getElem_toArray, List.getElem_cons_succ, List.getElem_cons_zero, List.setIfInBounds_toArray, List.set_cons_zero, List.set_cons_succ])
    refine wpAnyH_take (i := 9) (v := .slice fa M fc) rfl (by kernel_rfl) (by kernel_rfl) (by kernel_rfl) (fun _ _ _ h => h) (Or.inl ⟨by simp [Region.wanted, yielded], fun W hW => by go_simp⟩) trivial ?_
    try (simp only [Act.put, List.getElem_toArray, List.getElem_cons_succ, List.getElem_cons_zero, List.setIfInBounds_toArray, List.set_cons_zero, List.set_cons_succ])
    refine wpAnyH_take (i := 10) (v := .int .i64 (M : Int)) rfl (by kernel_rfl) (by kernel_rfl) (by kernel_rfl) (fun _ _ _ h => h) (Or.inl ⟨by simp [Region.wanted, yielded], fun W hW => by go_simp⟩) trivial ?_
    try (simp only [Act.put, List.getElem_toArray, List.getElem_cons_succ, List.getElem_cons_zero, List.setIfInBounds_toArray, List.set_cons_zero, List.set_cons_succ])
    refine wpAnyH_ready (rs := [2, 5, 8, 11]) (by kernel_rfl) (by simp) ?_
    refine (AllReadyH.cons (o := _) rfl (fun KK hKK => ?_) (AllReadyH.cons (o := _) rfl (fun KK hKK => ?_) (AllReadyH.cons (o := _) rfl (fun KK hKK => ?_) (AllReadyH.cons (o := _) rfl (fun KK hKK => ?_) AllReadyH.nil))))
    · obtain ⟨W1, hr1, z1, kk1, hl1⟩ := mkZ (B := w5.heap.size) Wd M hMb (by have := KD.out.size; omega)
      refine step_make_run (by simp [Region.wanted, yielded]) _ _ _ (by rfl) _ _ (by rfl) (by rfl) hr1 ?_
      have Z2_1 := Lib.hid z1
      have K1 := Lib.hid (KD.out.then kk1)
      obtain ⟨g1, hg1⟩ : ∃ g, g = Wd.heap.size := ⟨_, rfl⟩
      rw [← hg1] at Z2_1 ⊢
      have L1 : Hid (w5.heap.size ≤ g1 ∧ g1 < W1.heap.size) := Lib.hid ⟨by have := KD.out.size; omega, by omega⟩
      clear hr1 z1 kk1 hl1 hg1
      refine hKK.out _ _ trivial (fun _ => ?_)
      clear hKK KK
      try (simp only [Act.put, List.getElem_toArray, List.getElem_cons_succ, List.getElem_cons_zero, List.setIfInBounds_toArray, List.set_cons_zero, List.set_cons_succ])
      refine wpAnyH_take (i := 12) (v := .slice (some ⟨g1, 0, none⟩) M M) rfl (by kernel_rfl) (by kernel_rfl) (by kernel_rfl) (fun _ _ _ h => h) (Or.inl ⟨by simp [Region.wanted, yielded], fun W hW => by go_simp⟩) trivial ?_
      try (simp only [Act.put, List.getElem_toArray, List.getElem_cons_succ, List.getElem_cons_zero, List.setIfInBounds_toArray, List.set_cons_zero, List.set_cons_succ])
      refine wpAnyH_ready (rs := [5, 8, 11]) (by kernel_rfl) (by simp) ?_
      refine (AllReadyH.cons (o := _) rfl (fun KK hKK => ?_) (AllReadyH.cons (o := _) rfl (fun KK hKK => ?_) (AllReadyH.cons (o := _) rfl (fun KK hKK => ?_) AllReadyH.nil)))
      · obtain ⟨W2, hr2, z2, kk2, hl2⟩ := mkZ (B := w5.heap.size) W1 M hMb (by have := K1.out.size; omega)
        refine step_make_run (by simp [Region.wanted, yielded]) _ _ _ (by rfl) _ _ (by rfl) (by rfl) hr2 ?_
        have Z2_2 := Lib.hid (Z2_1.out.on kk2)
        have Z5_2 := Lib.hid z2
        have K2 := Lib.hid (K1.out.then kk2)
        obtain ⟨g2, hg2⟩ : ∃ g, g = W1.heap.size := ⟨_, rfl⟩
        rw [← hg2] at Z5_2 ⊢
        have L2 : Hid (g1 < g2 ∧ g2 < W2.heap.size) := Lib.hid ⟨by have := L1.out; omega, by omega⟩
        clear hr2 z2 kk2 hl2 hg2
        refine hKK.out _ _ trivial (fun _ => ?_)
        clear hKK KK
        try (simp only [Act.put, List.getElem_toArray, List.getElem_cons_succ, List.getElem_cons_zero, List.setIfInBounds_toArray, List.set_cons_zero, List.set_cons_succ])
        refine wpAnyH_take (i := 13) (v := .slice (some ⟨g2, 0, none⟩) M M) rfl (by kernel_rfl) (by kernel_rfl) (by kernel_rfl) (fun _ _ _ h => h) (Or.inl ⟨by simp [Region.wanted, yielded], fun W hW => by go_simp⟩) trivial ?_
        try (simp only [Act.put, List.getElem_toArray, List.getElem_cons_succ, List.getElem_cons_zero, List.setIfInBounds_toArray, List.set_cons_zero, List.set_cons_succ])
        refine wpAnyH_ready (rs := [8, 11]) (by kernel_rfl) (by simp) ?_
        refine (AllReadyH.cons (o := _) rfl (fun KK hKK => ?_) (AllReadyH.cons (o := _) rfl (fun KK hKK => ?_) AllReadyH.nil))
        · obtain ⟨W3, hr3, z3, kk3, hl3⟩ := mkZ (B := w5.heap.size) W2 M hMb (by have := K2.out.size; omega)
          refine step_make_run (by simp [Region.wanted, yielded]) _ _ _ (by rfl) _ _ (by rfl) (by rfl) hr3 ?_
          have Z2_3 := Lib.hid (Z2_2.out.on kk3)
          have Z5_3 := Lib.hid (Z5_2.out.on kk3)
          have Z8_3 := Lib.hid z3
          have K3 := Lib.hid (K2.out.then kk3)
          obtain ⟨g3, hg3⟩ : ∃ g, g = W2.heap.size := ⟨_, rfl⟩
          rw [← hg3] at Z8_3 ⊢
          have L3 : Hid (g2 < g3 ∧ g3 < W3.heap.size) := Lib.hid ⟨by have := L2.out; omega, by omega⟩
          clear hr3 z3 kk3 hl3 hg3
          refine hKK.out _ _ trivial (fun _ => ?_)
          clear hKK KK
          try (simp only [Act.put, List.getElem_toArray, List.getElem_cons_succ, List.getElem_cons_zero, List.setIfInBounds_toArray, List.set_cons_zero, List.set_cons_succ])
          refine wpAnyH_take (i := 14) (v := .slice (some ⟨g3, 0, none⟩) M M) rfl (by kernel_rfl) (by kernel_rfl) (by kernel_rfl) (fun _ _ _ h => h) (Or.inl ⟨by simp [Region.wanted, yielded], fun W hW => by go_simp⟩) trivial ?_
          try (simp only [Act.put, List.getElem_toArray, List.getElem_cons_succ, List.getElem_cons_zero, List.setIfInBounds_toArray, List.set_cons_zero, List.set_cons_succ])
          refine wpAnyH_ready (rs := [11]) (by kernel_rfl) (by simp) ?_
          refine (AllReadyH.cons (o := _) rfl (fun KK hKK => ?_) AllReadyH.nil)
          obtain ⟨W4, hr4, z4, kk4, hl4⟩ := mkZ (B := w5.heap.size) W3 M hMb (by have := K3.out.size; omega)
          refine step_make_run (by simp [Region.wanted, yielded]) _ _ _ (by rfl) _ _ (by rfl) (by rfl) hr4 ?_
          have Z2_4 := Lib.hid (Z2_3.out.on kk4)
          have Z5_4 := Lib.hid (Z5_3.out.on kk4)
          have Z8_4 := Lib.hid (Z8_3.out.on kk4)
          have Z11_4 := Lib.hid z4
          have K4 := Lib.hid (K3.out.then kk4)
          obtain ⟨g4, hg4⟩ : ∃ g, g = W3.heap.size := ⟨_, rfl⟩
          rw [← hg4] at Z11_4 ⊢
          have L4 : Hid (g3 < g4 ∧ g4 < W4.heap.size) := Lib.hid ⟨by have := L3.out; omega, by omega⟩
          clear hr4 z4 kk4 hl4 hg4
          refine hKK.out _ _ trivial (fun _ => ?_)
          clear hKK KK
          try (simp only [Act.put, List.getElem_toArray, List.getElem_cons_succ, List.getElem_cons_zero, List.setIfInBounds_toArray, List.set_cons_zero, List.set_cons_succ])
          refine wpAnyH_take (i := 15) (v := .slice (some ⟨g4, 0, none⟩) M M) rfl (by kernel_rfl) (by kernel_rfl) (by kernel_rfl) (fun _ _ _ h => h) (Or.inl ⟨by simp [Region.wanted, yielded], fun W hW => by go_simp⟩) trivial ?_
          try (simp only [Act.put, List.getElem_toArray, List.getElem_cons_succ, List.getElem_cons_zero, List.setIfInBounds_toArray, List.set_cons_zero, List.set_cons_succ])
          refine wpAnyH_done (by kernel_rfl) ?_ _
          go_wp2_with fail
          go_meet
          exact ⟨g1, g2, g3, g4, rfl, rfl, rfl, rfl, Lib.hid ⟨Z2_4.out, Z5_4.out, Z8_4.out, Z11_4.out, by have := L1.out; have := L2.out; have := L3.out; have := L4.out; omega, K4.out⟩⟩
        · obtain ⟨W5, hr5, z5, kk5, hl5⟩ := mkZ (B := w5.heap.size) W2 M hMb (by have := K2.out.size; omega)
          refine step_make_run (by simp [Region.wanted, yielded]) _ _ _ (by rfl) _ _ (by rfl) (by rfl) hr5 ?_
          have Z2_5 := Lib.hid (Z2_2.out.on kk5)
          have Z5_5 := Lib.hid (Z5_2.out.on kk5)
          have Z11_5 := Lib.hid z5
          have K5 := Lib.hid (K2.out.then kk5)
          obtain ⟨g5, hg5⟩ : ∃ g, g = W2.heap.size := ⟨_, rfl⟩
          rw [← hg5] at Z11_5 ⊢
          have L5 : Hid (g2 < g5 ∧ g5 < W5.heap.size) := Lib.hid ⟨by have := L2.out; omega, by omega⟩
          clear hr5 z5 kk5 hl5 hg5
          refine hKK.out _ _ trivial (fun _ => ?_)
          clear hKK KK
          try (simp only [Act.put, List.getElem_toArray, List.getElem_cons_succ, List.getElem_cons_zero, List.setIfInBounds_toArray, List.set_cons_zero, List.set_cons_succ])
          refine wpAnyH_ready (rs := [8]) (by kernel_rfl) (by simp) ?_
          refine (AllReadyH.cons (o := _) rfl (fun KK hKK => ?_) AllReadyH.nil)
          obtain ⟨W6, hr6, z6, kk6, hl6⟩ := mkZ (B := w5.heap.size) W5 M hMb (by have := K5.out.size; omega)
          refine step_make_run (by simp [Region.wanted, yielded]) _ _ _ (by rfl) _ _ (by rfl) (by rfl) hr6 ?_
          have Z2_6 := Lib.hid (Z2_5.out.on kk6)
          have Z5_6 := Lib.hid (Z5_5.out.on kk6)
          have Z11_6 := Lib.hid (Z11_5.out.on kk6)
          have Z8_6 := Lib.hid z6
          have K6 := Lib.hid (K5.out.then kk6)
          obtain ⟨g6, hg6⟩ : ∃ g, g = W5.heap.size := ⟨_, rfl⟩
          rw [← hg6] at Z8_6 ⊢
          have L6 : Hid (g5 < g6 ∧ g6 < W6.heap.size) := Lib.hid ⟨by have := L5.out; omega, by omega⟩
          clear hr6 z6 kk6 hl6 hg6
          refine hKK.out _ _ trivial (fun _ => ?_)
          clear hKK KK
          try (simp only [Act.put, List.getElem_toArray, List.getElem_cons_succ, List.getElem_cons_zero, List.setIfInBounds_toArray, List.set_cons_zero, List.set_cons_succ])
          refine wpAnyH_take (i := 14) (v := .slice (some ⟨g6, 0, none⟩) M M) rfl (by kernel_rfl) (by kernel_rfl) (by kernel_rfl) (fun _ _ _ h => h) (Or.inl ⟨by simp [Region.wanted, yielded], fun W hW => by go_simp⟩) trivial ?_
          try (simp only [Act.put, List.getElem_toArray, List.getElem_cons_succ, List.getElem_cons_zero, List.setIfInBounds_toArray, List.set_cons_zero, List.set_cons_succ])
          refine wpAnyH_take (i := 15) (v := .slice (some ⟨g5, 0, none⟩) M M) rfl (by kernel_rfl) (by kernel_rfl) (by kernel_rfl) (fun _ _ _ h => h) (Or.inl ⟨by simp [Region.wanted, yielded], fun W hW => by go_simp⟩) trivial ?_
          try (simp only [Act.put, List.getElem_toArray, List.getElem_cons_succ, List.getElem_cons_zero, List.setIfInBounds_toArray, List.set_cons_zero, List.set_cons_succ])
          refine wpAnyH_done (by kernel_rfl) ?_ _
          go_wp2_with fail
          go_meet
          exact ⟨g1, g2, g6, g5, rfl, rfl, rfl, rfl, Lib.hid ⟨Z2_6.out, Z5_6.out, Z8_6.out, Z11_6.out, by have := L1.out; have := L2.out; have := L5.out; have := L6.out; omega, K6.out⟩⟩
      · obtain ⟨W7, hr7, z7, kk7, hl7⟩ := mkZ (B := w5.heap.size) W1 M hMb (by have := K1.out.size; omega)
        refine step_make_run (by simp [Region.wanted, yielded]) _ _ _ (by rfl) _ _ (by rfl) (by rfl) hr7 ?_
        have Z2_7 := Lib.hid (Z2_1.out.on kk7)
        have Z8_7 := Lib.hid z7
        have K7 := Lib.hid (K1.out.then kk7)
        obtain ⟨g7, hg7⟩ : ∃ g, g = W1.heap.size := ⟨_, rfl⟩
        rw [← hg7] at Z8_7 ⊢
        have L7 : Hid (g1 < g7 ∧ g7 < W7.heap.size) := Lib.hid ⟨by have := L1.out; omega, by omega⟩
        clear hr7 z7 kk7 hl7 hg7
        refine hKK.out _ _ trivial (fun _ => ?_)
        clear hKK KK
        try (simp only [Act.put, List.getElem_toArray, List.getElem_cons_succ, List.getElem_cons_zero, List.setIfInBounds_toArray, List.set_cons_zero, List.set_cons_succ])
        refine wpAnyH_ready (rs := [5, 11]) (by kernel_rfl) (by simp) ?_
        refine (AllReadyH.cons (o := _) rfl (fun KK hKK => ?_) (AllReadyH.cons (o := _) rfl (fun KK hKK => ?_) AllReadyH.nil))
        · obtain ⟨W8, hr8, z8, kk8, hl8⟩ := mkZ (B := w5.heap.size) W7 M hMb (by have := K7.out.size; omega)
          refine step_make_run (by simp [Region.wanted, yielded]) _ _ _ (by rfl) _ _ (by rfl) (by rfl) hr8 ?_
          have Z2_8 := Lib.hid (Z2_7.out.on kk8)
          have Z8_8 := Lib.hid (Z8_7.out.on kk8)
          have Z5_8 := Lib.hid z8
          have K8 := Lib.hid (K7.out.then kk8)
          obtain ⟨g8, hg8⟩ : ∃ g, g = W7.heap.size := ⟨_, rfl⟩
          rw [← hg8] at Z5_8 ⊢
          have L8 : Hid (g7 < g8 ∧ g8 < W8.heap.size) := Lib.hid ⟨by have := L7.out; omega, by omega⟩
          clear hr8 z8 kk8 hl8 hg8
          refine hKK.out _ _ trivial (fun _ => ?_)
          clear hKK KK
          try (simp only [Act.put, List.getElem_toArray, List.getElem_cons_succ, List.getElem_cons_zero, List.setIfInBounds_toArray, List.set_cons_zero, List.set_cons_succ])
          refine wpAnyH_take (i := 13) (v := .slice (some ⟨g8, 0, none⟩) M M) rfl (by kernel_rfl) (by kernel_rfl) (by kernel_rfl) (fun _ _ _ h => h) (Or.inl ⟨by simp [Region.wanted, yielded], fun W hW => by go_simp⟩) trivial ?_
          try (simp only [Act.put, List.getElem_toArray, List.getElem_cons_succ, List.getElem_cons_zero, List.setIfInBounds_toArray, List.set_cons_zero, List.set_cons_succ])
          refine wpAnyH_take (i := 14) (v := .slice (some ⟨g7, 0, none⟩) M M) rfl (by kernel_rfl) (by kernel_rfl) (by kernel_rfl) (fun _ _ _ h => h) (Or.inl ⟨by simp [Region.wanted, yielded], fun W hW => by go_simp⟩) trivial ?_
          try (simp only [Act.put, List.getElem_toArray, List.getElem_cons_succ, List.getElem_cons_zero, List.setIfInBounds_toArray, List.set_cons_zero, List.set_cons_succ])
          refine wpAnyH_ready (rs := [11]) (by kernel_rfl) (by simp) ?_
          refine (AllReadyH.cons (o := _) rfl (fun KK hKK => ?_) AllReadyH.nil)
          obtain ⟨W9, hr9, z9, kk9, hl9⟩ := mkZ (B := w5.heap.size) W8 M hMb (by have := K8.out.size; omega)
          refine step_make_run (by simp [Region.wanted, yielded]) _ _ _ (by rfl) _ _ (by rfl) (by rfl) hr9 ?_
          have Z2_9 := Lib.hid (Z2_8.out.on kk9)
          have Z8_9 := Lib.hid (Z8_8.out.on kk9)
          have Z5_9 := Lib.hid (Z5_8.out.on kk9)
          have Z11_9 := Lib.hid z9
          have K9 := Lib.hid (K8.out.then kk9)
          obtain ⟨g9, hg9⟩ : ∃ g, g = W8.heap.size := ⟨_, rfl⟩
          rw [← hg9] at Z11_9 ⊢
          have L9 : Hid (g8 < g9 ∧ g9 < W9.heap.size) := Lib.hid ⟨by have := L8.out; omega, by omega⟩
          clear hr9 z9 kk9 hl9 hg9
          refine hKK.out _ _ trivial (fun _ => ?_)
          clear hKK KK
          try (simp only [Act.put, List.getElem_toArray, List.getElem_cons_succ, List.getElem_cons_zero, List.setIfInBounds_toArray, List.set_cons_zero, List.set_cons_succ])
          refine wpAnyH_take (i := 15) (v := .slice (some ⟨g9, 0, none⟩) M M) rfl (by kernel_rfl) (by kernel_rfl) (by kernel_rfl) (fun _ _ _ h => h) (Or.inl ⟨by simp [Region.wanted, yielded], fun W hW => by go_simp⟩) trivial ?_
          try (simp only [Act.put, List.getElem_toArray, List.getElem_cons_succ, List.getElem_cons_zero, List.setIfInBounds_toArray, List.set_cons_zero, List.set_cons_succ])
          refine wpAnyH_done (by kernel_rfl) ?_ _
          go_wp2_with fail
          go_meet
          exact ⟨g1, g8, g7, g9, rfl, rfl, rfl, rfl, Lib.hid ⟨Z2_9.out, Z5_9.out, Z8_9.out, Z11_9.out, by have := L1.out; have := L7.out; have := L8.out; have := L9.out; omega, K9.out⟩⟩
        · obtain ⟨W10, hr10, z10, kk10, hl10⟩ := mkZ (B := w5.heap.size) W7 M hMb (by have := K7.out.size; omega)
          refine step_make_run (by simp [Region.wanted, yielded]) _ _ _ (by rfl) _ _ (by rfl) (by rfl) hr10 ?_
          have Z2_10 := Lib.hid (Z2_7.out.on kk10)
          have Z8_10 := Lib.hid (Z8_7.out.on kk10)
          have Z11_10 := Lib.hid z10
          have K10 := Lib.hid (K7.out.then kk10)
          obtain ⟨g10, hg10⟩ : ∃ g, g = W7.heap.size := ⟨_, rfl⟩
          rw [← hg10] at Z11_10 ⊢
          have L10 : Hid (g7 < g10 ∧ g10 < W10.heap.size) := Lib.hid ⟨by have := L7.out; omega, by omega⟩
          clear hr10 z10 kk10 hl10 hg10
          refine hKK.out _ _ trivial (fun _ => ?_)
          clear hKK KK
          try (simp only [Act.put, List.getElem_toArray, List.getElem_cons_succ, List.getElem_cons_zero, List.setIfInBounds_toArray, List.set_cons_zero, List.set_cons_succ])
          refine wpAnyH_ready (rs := [5]) (by kernel_rfl) (by simp) ?_
          refine (AllReadyH.cons (o := _) rfl (fun KK hKK => ?_) AllReadyH.nil)
          obtain ⟨W11, hr11, z11, kk11, hl11⟩ := mkZ (B := w5.heap.size) W10 M hMb (by have := K10.out.size; omega)
          refine step_make_run (by simp [Region.wanted, yielded]) _ _ _ (by rfl) _ _ (by rfl) (by rfl) hr11 ?_
          have Z2_11 := Lib.hid (Z2_10.out.on kk11)
          have Z8_11 := Lib.hid (Z8_10.out.on kk11)
          have Z11_11 := Lib.hid (Z11_10.out.on kk11)
          have Z5_11 := Lib.hid z11
          have K11 := Lib.hid (K10.out.then kk11)
          obtain ⟨g11, hg11⟩ : ∃ g, g = W10.heap.size := ⟨_, rfl⟩
          rw [← hg11] at Z5_11 ⊢
          have L11 : Hid (g10 < g11 ∧ g11 < W11.heap.size) := Lib.hid ⟨by have := L10.out; omega, by omega⟩
          clear hr11 z11 kk11 hl11 hg11
          refine hKK.out _ _ trivial (fun _ => ?_)
          clear hKK KK
          try (simp only [Act.put, List.getElem_toArray, List.getElem_cons_succ, List.getElem_cons_zero, List.setIfInBounds_toArray, List.set_cons_zero, List.set_cons_succ])
          refine wpAnyH_take (i := 13) (v := .slice (some ⟨g11, 0, none⟩) M M) rfl (by kernel_rfl) (by kernel_rfl) (by kernel_rfl) (fun _ _ _ h => h) (Or.inl ⟨by simp [Region.wanted, yielded], fun W hW => by go_simp⟩) trivial ?_
          try (simp only [Act.put, List.getElem_toArray, List.getElem_cons_succ, List.getElem_cons_zero, List.setIfInBounds_toArray, List.set_cons_zero, List.set_cons_succ])
          refine wpAnyH_take (i := 14) (v := .slice (some ⟨g7, 0, none⟩) M M) rfl (by kernel_rfl) (by kernel_rfl) (by kernel_rfl) (fun _ _ _ h => h) (Or.inl ⟨by simp [Region.wanted, yielded], fun W hW => by go_simp⟩) trivial ?_
          try (simp only [Act.put, List.getElem_toArray, List.getElem_cons_succ, List.getElem_cons_zero, List.setIfInBounds_toArray, List.set_cons_zero, List.set_cons_succ])
          refine wpAnyH_take (i := 15) (v := .slice (some ⟨g10, 0, none⟩) M M) rfl (by kernel_rfl) (by kernel_rfl) (by kernel_rfl) (fun _ _ _ h => h) (Or.inl ⟨by simp [Region.wanted, yielded], fun W hW => by go_simp⟩) trivial ?_
          try (simp only [Act.put, List.getElem_toArray, List.getElem_cons_succ, List.getElem_cons_zero, List.setIfInBounds_toArray, List.set_cons_zero, List.set_cons_succ])
          refine wpAnyH_done (by kernel_rfl) ?_ _
          go_wp2_with fail
          go_meet
          exact ⟨g1, g11, g7, g10, rfl, rfl, rfl, rfl, Lib.hid ⟨Z2_11.out, Z5_11.out, Z8_11.out, Z11_11.out, by have := L1.out; have := L7.out; have := L10.out; have := L11.out; omega, K11.out⟩⟩
      · obtain ⟨W12, hr12, z12, kk12, hl12⟩ := mkZ (B := w5.heap.size) W1 M hMb (by have := K1.out.size; omega)
        refine step_make_run (by simp [Region.wanted, yielded]) _ _ _ (by rfl) _ _ (by rfl) (by rfl) hr12 ?_
        have Z2_12 := Lib.hid (Z2_1.out.on kk12)
        have Z11_12 := Lib.hid z12
        have K12 := Lib.hid (K1.out.then kk12)
        obtain ⟨g12, hg12⟩ : ∃ g, g = W1.heap.size := ⟨_, rfl⟩
        rw [← hg12] at Z11_12 ⊢
        have L12 : Hid (g1 < g12 ∧ g12 < W12.heap.size) := Lib.hid ⟨by have := L1.out; omega, by omega⟩
        clear hr12 z12 kk12 hl12 hg12
        refine hKK.out _ _ trivial (fun _ => ?_)
        clear hKK KK
        try (simp only [Act.put, List.getElem_toArray, List.getElem_cons_succ, List.getElem_cons_zero, List.setIfInBounds_toArray, List.set_cons_zero, List.set_cons_succ])
        refine wpAnyH_ready (rs := [5, 8]) (by kernel_rfl) (by simp) ?_
        refine (AllReadyH.cons (o := _) rfl (fun KK hKK => ?_) (AllReadyH.cons (o := _) rfl (fun KK hKK => ?_) AllReadyH.nil))
        · obtain ⟨W13, hr13, z13, kk13, hl13⟩ := mkZ (B := w5.heap.size) W12 M hMb (by have := K12.out.size; omega)
          refine step_make_run (by simp [Region.wanted, yielded]) _ _ _ (by rfl) _ _ (by rfl) (by rfl) hr13 ?_
          have Z2_13 := Lib.hid (Z2_12.out.on kk13)
          have Z11_13 := Lib.hid (Z11_12.out.on kk13)
          have Z5_13 := Lib.hid z13
          have K13 := Lib.hid (K12.out.then kk13)
          obtain ⟨g13, hg13⟩ : ∃ g, g = W12.heap.size := ⟨_, rfl⟩
          rw [← hg13] at Z5_13 ⊢
          have L13 : Hid (g12 < g13 ∧ g13 < W13.heap.size) := Lib.hid ⟨by have := L12.out; omega, by omega⟩
          clear hr13 z13 kk13 hl13 hg13
          refine hKK.out _ _ trivial (fun _ => ?_)
          clear hKK KK
          try (simp only [Act.put, List.getElem_toArray, List.getElem_cons_succ, List.getElem_cons_zero, List.setIfInBounds_toArray, List.set_cons_zero, List.set_cons_succ])
          refine wpAnyH_take (i := 13) (v := .slice (some ⟨g13, 0, none⟩) M M) rfl (by kernel_rfl) (by kernel_rfl) (by kernel_rfl) (fun _ _ _ h => h) (Or.inl ⟨by simp [Region.wanted, yielded], fun W hW => by go_simp⟩) trivial ?_
          try (simp only [Act.put, List.getElem_toArray, List.getElem_cons_succ, List.getElem_cons_zero, List.setIfInBounds_toArray, List.set_cons_zero, List.set_cons_succ])
          refine wpAnyH_ready (rs := [8]) (by kernel_rfl) (by simp) ?_
          refine (AllReadyH.cons (o := _) rfl (fun KK hKK => ?_) AllReadyH.nil)
          obtain ⟨W14, hr14, z14, kk14, hl14⟩ := mkZ (B := w5.heap.size) W13 M hMb (by have := K13.out.size; omega)
          refine step_make_run (by simp [Region.wanted, yielded]) _ _ _ (by rfl) _ _ (by rfl) (by rfl) hr14 ?_
          have Z2_14 := Lib.hid (Z2_13.out.on kk14)
          have Z11_14 := Lib.hid (Z11_13.out.on kk14)
          have Z5_14 := Lib.hid (Z5_13.out.on kk14)
          have Z8_14 := Lib.hid z14
          have K14 := Lib.hid (K13.out.then kk14)
          obtain ⟨g14, hg14⟩ : ∃ g, g = W13.heap.size := ⟨_, rfl⟩
          rw [← hg14] at Z8_14 ⊢
          have L14 : Hid (g13 < g14 ∧ g14 < W14.heap.size) := Lib.hid ⟨by have := L13.out; omega, by omega⟩
          clear hr14 z14 kk14 hl14 hg14
          refine hKK.out _ _ trivial (fun _ => ?_)
          clear hKK KK
          try (simp only [Act.put, List.getElem_toArray, List.getElem_cons_succ, List.getElem_cons_zero, List.setIfInBounds_toArray, List.set_cons_zero, List.set_cons_succ])
          refine wpAnyH_take (i := 14) (v := .slice (some ⟨g14, 0, none⟩) M M) rfl (by kernel_rfl) (by kernel_rfl) (by kernel_rfl) (fun _ _ _ h => h) (Or.inl ⟨by simp [Region.wanted, yielded], fun W hW => by go_simp⟩) trivial ?_
          try (simp only [Act.put, List.getElem_toArray, List.getElem_cons_succ, List.getElem_cons_zero, List.setIfInBounds_toArray, List.set_cons_zero, List.set_cons_succ])
          refine wpAnyH_take (i := 15) (v := .slice (some ⟨g12, 0, none⟩) M M) rfl (by kernel_rfl) (by kernel_rfl) (by kernel_rfl) (fun _ _ _ h => h) (Or.inl ⟨by simp [Region.wanted, yielded], fun W hW => by go_simp⟩) trivial ?_
          try (simp only [Act.put, List.getElem_toArray, List.getElem_cons_succ, List.getElem_cons_zero, List.setIfInBounds_toArray, List.set_cons_zero, List.set_cons_succ])
          refine wpAnyH_done (by kernel_rfl) ?_ _
          go_wp2_with fail
          go_meet
          exact ⟨g1, g13, g14, g12, rfl, rfl, rfl, rfl, Lib.hid ⟨Z2_14.out, Z5_14.out, Z8_14.out, Z11_14.out, by have := L1.out; have := L12.out; have := L13.out; have := L14.out; omega, K14.out⟩⟩
        · obtain ⟨W15, hr15, z15, kk15, hl15⟩ := mkZ (B := w5.heap.size) W12 M hMb (by have := K12.out.size; omega)
          refine step_make_run (by simp [Region.wanted, yielded]) _ _ _ (by rfl) _ _ (by rfl) (by rfl) hr15 ?_
          have Z2_15 := Lib.hid (Z2_12.out.on kk15)
          have Z11_15 := Lib.hid (Z11_12.out.on kk15)
          have Z8_15 := Lib.hid z15
          have K15 := Lib.hid (K12.out.then kk15)
          obtain ⟨g15, hg15⟩ : ∃ g, g = W12.heap.size := ⟨_, rfl⟩
          rw [← hg15] at Z8_15 ⊢
          have L15 : Hid (g12 < g15 ∧ g15 < W15.heap.size) := Lib.hid ⟨by have := L12.out; omega, by omega⟩
          clear hr15 z15 kk15 hl15 hg15
          refine hKK.out _ _ trivial (fun _ => ?_)
          clear hKK KK
          try (simp only [Act.put, List.getElem_toArray, List.getElem_cons_succ, List.getElem_cons_zero, List.setIfInBounds_toArray, List.set_cons_zero, List.set_cons_succ])
          refine wpAnyH_ready (rs := [5]) (by kernel_rfl) (by simp) ?_
          refine (AllReadyH.cons (o := _) rfl (fun KK hKK => ?_) AllReadyH.nil)
          obtain ⟨W16, hr16, z16, kk16, hl16⟩ := mkZ (B := w5.heap.size) W15 M hMb (by have := K15.out.size; omega)
          refine step_make_run (by simp [Region.wanted, yielded]) _ _ _ (by rfl) _ _ (by rfl) (by rfl) hr16 ?_
          have Z2_16 := Lib.hid (Z2_15.out.on kk16)
          have Z11_16 := Lib.hid (Z11_15.out.on kk16)
          have Z8_16 := Lib.hid (Z8_15.out.on kk16)
          have Z5_16 := Lib.hid z16
          have K16 := Lib.hid (K15.out.then kk16)
          obtain ⟨g16, hg16⟩ : ∃ g, g = W15.heap.size := ⟨_, rfl⟩
          rw [← hg16] at Z5_16 ⊢
          have L16 : Hid (g15 < g16 ∧ g16 < W16.heap.size) := Lib.hid ⟨by have := L15.out; omega, by omega⟩
          clear hr16 z16 kk16 hl16 hg16
          refine hKK.out _ _ trivial (fun _ => ?_)
          clear hKK KK
          try (simp only [Act.put, List.getElem_toArray, List.getElem_cons_succ, List.getElem_cons_zero, List.setIfInBounds_toArray, List.set_cons_zero, List.set_cons_succ])
          refine wpAnyH_take (i := 13) (v := .slice (some ⟨g16, 0, none⟩) M M) rfl (by kernel_rfl) (by kernel_rfl) (by kernel_rfl) (fun _ _ _ h => h) (Or.inl ⟨by simp [Region.wanted, yielded], fun W hW => by go_simp⟩) trivial ?_
          try (simp only [Act.put, List.getElem_toArray, List.getElem_cons_succ, List.getElem_cons_zero, List.setIfInBounds_toArray, List.set_cons_zero, List.set_cons_succ])
          refine wpAnyH_take (i := 14) (v := .slice (some ⟨g15, 0, none⟩) M M) rfl (by kernel_rfl) (by kernel_rfl) (by kernel_rfl) (fun _ _ _ h => h) (Or.inl ⟨by simp [Region.wanted, yielded], fun W hW => by go_simp⟩) trivial ?_
          try (simp only [Act.put, List.getElem_toArray, List.getElem_cons_succ, List.getElem_cons_zero, List.setIfInBounds_toArray, List.set_cons_zero, List.set_cons_succ])
          refine wpAnyH_take (i := 15) (v := .slice (some ⟨g12, 0, none⟩) M M) rfl (by kernel_rfl) (by kernel_rfl) (by kernel_rfl) (fun _ _ _ h => h) (Or.inl ⟨by simp [Region.wanted, yielded], fun W hW => by go_simp⟩) trivial ?_
          try (simp only [Act.put, List.getElem_toArray, List.getElem_cons_succ, List.getElem_cons_zero, List.setIfInBounds_toArray, List.set_cons_zero, List.set_cons_succ])
          refine wpAnyH_done (by kernel_rfl) ?_ _
          go_wp2_with fail
          go_meet
          exact ⟨g1, g16, g15, g12, rfl, rfl, rfl, rfl, Lib.hid ⟨Z2_16.out, Z5_16.out, Z8_16.out, Z11_16.out, by have := L1.out; have := L12.out; have := L15.out; have := L16.out; omega, K16.out⟩⟩
    · obtain ⟨W17, hr17, z17, kk17, hl17⟩ := mkZ (B := w5.heap.size) Wd M hMb (by have := KD.out.size; omega)
      refine step_make_run (by simp [Region.wanted, yielded]) _ _ _ (by rfl) _ _ (by rfl) (by rfl) hr17 ?_
      have Z5_17 := Lib.hid z17
      have K17 := Lib.hid (KD.out.then kk17)
      obtain ⟨g17, hg17⟩ : ∃ g, g = Wd.heap.size := ⟨_, rfl⟩
      rw [← hg17] at Z5_17 ⊢
      have L17 : Hid (w5.heap.size ≤ g17 ∧ g17 < W17.heap.size) := Lib.hid ⟨by have := KD.out.size; omega, by omega⟩
      clear hr17 z17 kk17 hl17 hg17
      refine hKK.out _ _ trivial (fun _ => ?_)
      clear hKK KK
      try (simp only [Act.put, List.getElem_toArray, List.getElem_cons_succ, List.getElem_cons_zero, List.setIfInBounds_toArray, List.set_cons_zero, List.set_cons_succ])
      refine wpAnyH_ready (rs := [2, 8, 11]) (by kernel_rfl) (by simp) ?_
      refine (AllReadyH.cons (o := _) rfl (fun KK hKK => ?_) (AllReadyH.cons (o := _) rfl (fun KK hKK => ?_) (AllReadyH.cons (o := _) rfl (fun KK hKK => ?_) AllReadyH.nil)))
      · obtain ⟨W18, hr18, z18, kk18, hl18⟩ := mkZ (B := w5.heap.size) W17 M hMb (by have := K17.out.size; omega)
        refine step_make_run (by simp [Region.wanted, yielded]) _ _ _ (by rfl) _ _ (by rfl) (by rfl) hr18 ?_
        have Z5_18 := Lib.hid (Z5_17.out.on kk18)
        have Z2_18 := Lib.hid z18
        have K18 := Lib.hid (K17.out.then kk18)
        obtain ⟨g18, hg18⟩ : ∃ g, g = W17.heap.size := ⟨_, rfl⟩
        rw [← hg18] at Z2_18 ⊢
        have L18 : Hid (g17 < g18 ∧ g18 < W18.heap.size) := Lib.hid ⟨by have := L17.out; omega, by omega⟩
        clear hr18 z18 kk18 hl18 hg18
        refine hKK.out _ _ trivial (fun _ => ?_)
        clear hKK KK
        try (simp only [Act.put, List.getElem_toArray, List.getElem_cons_succ, List.getElem_cons_zero, List.setIfInBounds_toArray, List.set_cons_zero, List.set_cons_succ])
        refine wpAnyH_take (i := 12) (v := .slice (some ⟨g18, 0, none⟩) M M) rfl (by kernel_rfl) (by kernel_rfl) (by kernel_rfl) (fun _ _ _ h => h) (Or.inl ⟨by simp [Region.wanted, yielded], fun W hW => by go_simp⟩) trivial ?_
        try (simp only [Act.put, List.getElem_toArray, List.getElem_cons_succ, List.getElem_cons_zero, List.setIfInBounds_toArray, List.set_cons_zero, List.set_cons_succ])
        refine wpAnyH_take (i := 13) (v := .slice (some ⟨g17, 0, none⟩) M M) rfl (by kernel_rfl) (by kernel_rfl) (by kernel_rfl) (fun _ _ _ h => h) (Or.inl ⟨by simp [Region.wanted, yielded], fun W hW => by go_simp⟩) trivial ?_
        try (simp only [Act.put, List.getElem_toArray, List.getElem_cons_succ, List.getElem_cons_zero, List.setIfInBounds_toArray, List.set_cons_zero, List.set_cons_succ])
        refine wpAnyH_ready (rs := [8, 11]) (by kernel_rfl) (by simp) ?_
        refine (AllReadyH.cons (o := _) rfl (fun KK hKK => ?_) (AllReadyH.cons (o := _) rfl (fun KK hKK => ?_) AllReadyH.nil))
        · obtain ⟨W19, hr19, z19, kk19, hl19⟩ := mkZ (B := w5.heap.size) W18 M hMb (by have := K18.out.size; omega)
          refine step_make_run (by simp [Region.wanted, yielded]) _ _ _ (by rfl) _ _ (by rfl) (by rfl) hr19 ?_
          have Z5_19 := Lib.hid (Z5_18.out.on kk19)
          have Z2_19 := Lib.hid (Z2_18.out.on kk19)
          have Z8_19 := Lib.hid z19
          have K19 := Lib.hid (K18.out.then kk19)
          obtain ⟨g19, hg19⟩ : ∃ g, g = W18.heap.size := ⟨_, rfl⟩
          rw [← hg19] at Z8_19 ⊢
          have L19 : Hid (g18 < g19 ∧ g19 < W19.heap.size) := Lib.hid ⟨by have := L18.out; omega, by omega⟩
          clear hr19 z19 kk19 hl19 hg19
          refine hKK.out _ _ trivial (fun _ => ?_)
          clear hKK KK
          try (simp only [Act.put, List.getElem_toArray, List.getElem_cons_succ, List.getElem_cons_zero, List.setIfInBounds_toArray, List.set_cons_zero, List.set_cons_succ])
          refine wpAnyH_take (i := 14) (v := .slice (some ⟨g19, 0, none⟩) M M) rfl (by kernel_rfl) (by kernel_rfl) (by kernel_rfl) (fun _ _ _ h => h) (Or.inl ⟨by simp [Region.wanted, yielded], fun W hW => by go_simp⟩) trivial ?_
          try (simp only [Act.put, List.getElem_toArray, List.getElem_cons_succ, List.getElem_cons_zero, List.setIfInBounds_toArray, List.set_cons_zero, List.set_cons_succ])
          refine wpAnyH_ready (rs := [11]) (by kernel_rfl) (by simp) ?_
          refine (AllReadyH.cons (o := _) rfl (fun KK hKK => ?_) AllReadyH.nil)
          obtain ⟨W20, hr20, z20, kk20, hl20⟩ := mkZ (B := w5.heap.size) W19 M hMb (by have := K19.out.size; omega)
          refine step_make_run (by simp [Region.wanted, yielded]) _ _ _ (by rfl) _ _ (by rfl) (by rfl) hr20 ?_
          have Z5_20 := Lib.hid (Z5_19.out.on kk20)
          have Z2_20 := Lib.hid (Z2_19.out.on kk20)
          have Z8_20 := Lib.hid (Z8_19.out.on kk20)
          have Z11_20 := Lib.hid z20
          have K20 := Lib.hid (K19.out.then kk20)
          obtain ⟨g20, hg20⟩ : ∃ g, g = W19.heap.size := ⟨_, rfl⟩
          rw [← hg20] at Z11_20 ⊢
          have L20 : Hid (g19 < g20 ∧ g20 < W20.heap.size) := Lib.hid ⟨by have := L19.out; omega, by omega⟩
          clear hr20 z20 kk20 hl20 hg20
          refine hKK.out _ _ trivial (fun _ => ?_)
          clear hKK KK
          try (simp only [Act.put, List.getElem_toArray, List.getElem_cons_succ, List.getElem_cons_zero, List.setIfInBounds_toArray, List.set_cons_zero, List.set_cons_succ])
          refine wpAnyH_take (i := 15) (v := .slice (some ⟨g20, 0, none⟩) M M) rfl (by kernel_rfl) (by kernel_rfl) (by kernel_rfl) (fun _ _ _ h => h) (Or.inl ⟨by simp [Region.wanted, yielded], fun W hW => by go_simp⟩) trivial ?_
          try (simp only [Act.put, List.getElem_toArray, List.getElem_cons_succ, List.getElem_cons_zero, List.setIfInBounds_toArray, List.set_cons_zero, List.set_cons_succ])
          refine wpAnyH_done (by kernel_rfl) ?_ _
          go_wp2_with fail
          go_meet
          exact ⟨g18, g17, g19, g20, rfl, rfl, rfl, rfl, Lib.hid ⟨Z2_20.out, Z5_20.out, Z8_20.out, Z11_20.out, by have := L17.out; have := L18.out; have := L19.out; have := L20.out; omega, K20.out⟩⟩
        · obtain ⟨W21, hr21, z21, kk21, hl21⟩ := mkZ (B := w5.heap.size) W18 M hMb (by have := K18.out.size; omega)
          refine step_make_run (by simp [Region.wanted, yielded]) _ _ _ (by rfl) _ _ (by rfl) (by rfl) hr21 ?_
          have Z5_21 := Lib.hid (Z5_18.out.on kk21)
          have Z2_21 := Lib.hid (Z2_18.out.on kk21)
          have Z11_21 := Lib.hid z21
          have K21 := Lib.hid (K18.out.then kk21)
          obtain ⟨g21, hg21⟩ : ∃ g, g = W18.heap.size := ⟨_, rfl⟩
          rw [← hg21] at Z11_21 ⊢
          have L21 : Hid (g18 < g21 ∧ g21 < W21.heap.size) := Lib.hid ⟨by have := L18.out; omega, by omega⟩
          clear hr21 z21 kk21 hl21 hg21
          refine hKK.out _ _ trivial (fun _ => ?_)
          clear hKK KK
          try (simp only [Act.put, List.getElem_toArray, List.getElem_cons_succ, List.getElem_cons_zero, List.setIfInBounds_toArray, List.set_cons_zero, List.set_cons_succ])
          refine wpAnyH_ready (rs := [8]) (by kernel_rfl) (by simp) ?_
          refine (AllReadyH.cons (o := _) rfl (fun KK hKK => ?_) AllReadyH.nil)
          obtain ⟨W22, hr22, z22, kk22, hl22⟩ := mkZ (B := w5.heap.size) W21 M hMb (by have := K21.out.size; omega)
          refine step_make_run (by simp [Region.wanted, yielded]) _ _ _ (by rfl) _ _ (by rfl) (by rfl) hr22 ?_
          have Z5_22 := Lib.hid (Z5_21.out.on kk22)
          have Z2_22 := Lib.hid (Z2_21.out.on kk22)
          have Z11_22 := Lib.hid (Z11_21.out.on kk22)
          have Z8_22 := Lib.hid z22
          have K22 := Lib.hid (K21.out.then kk22)
          obtain ⟨g22, hg22⟩ : ∃ g, g = W21.heap.size := ⟨_, rfl⟩
          rw [← hg22] at Z8_22 ⊢
          have L22 : Hid (g21 < g22 ∧ g22 < W22.heap.size) := Lib.hid ⟨by have := L21.out; omega, by omega⟩
          clear hr22 z22 kk22 hl22 hg22
          refine hKK.out _ _ trivial (fun _ => ?_)
          clear hKK KK
          try (simp only [Act.put, List.getElem_toArray, List.getElem_cons_succ, List.getElem_cons_zero, List.setIfInBounds_toArray, List.set_cons_zero, List.set_cons_succ])
          refine wpAnyH_take (i := 14) (v := .slice (some ⟨g22, 0, none⟩) M M) rfl (by kernel_rfl) (by kernel_rfl) (by kernel_rfl) (fun _ _ _ h => h) (Or.inl ⟨by simp [Region.wanted, yielded], fun W hW => by go_simp⟩) trivial ?_
          try (simp only [Act.put, List.getElem_toArray, List.getElem_cons_succ, List.getElem_cons_zero, List.setIfInBounds_toArray, List.set_cons_zero, List.set_cons_succ])
          refine wpAnyH_take (i := 15) (v := .slice (some ⟨g21, 0, none⟩) M M) rfl (by kernel_rfl) (by kernel_rfl) (by kernel_rfl) (fun _ _ _ h => h) (Or.inl ⟨by simp [Region.wanted, yielded], fun W hW => by go_simp⟩) trivial ?_
          try (simp only [Act.put, List.getElem_toArray, List.getElem_cons_succ, List.getElem_cons_zero, List.setIfInBounds_toArray, List.set_cons_zero, List.set_cons_succ])
          refine wpAnyH_done (by kernel_rfl) ?_ _
          go_wp2_with fail
          go_meet
          exact ⟨g18, g17, g22, g21, rfl, rfl, rfl, rfl, Lib.hid ⟨Z2_22.out, Z5_22.out, Z8_22.out, Z11_22.out, by have := L17.out; have := L18.out; have := L21.out; have := L22.out; omega, K22.out⟩⟩
      · obtain ⟨W23, hr23, z23, kk23, hl23⟩ := mkZ (B := w5.heap.size) W17 M hMb (by have := K17.out.size; omega)
        refine step_make_run (by simp [Region.wanted, yielded]) _ _ _ (by rfl) _ _ (by rfl) (by rfl) hr23 ?_
        have Z5_23 := Lib.hid (Z5_17.out.on kk23)
        have Z8_23 := Lib.hid z23
        have K23 := Lib.hid (K17.out.then kk23)
        obtain ⟨g23, hg23⟩ : ∃ g, g = W17.heap.size := ⟨_, rfl⟩
        rw [← hg23] at Z8_23 ⊢
        have L23 : Hid (g17 < g23 ∧ g23 < W23.heap.size) := Lib.hid ⟨by have := L17.out; omega, by omega⟩
        clear hr23 z23 kk23 hl23 hg23
        refine hKK.out _ _ trivial (fun _ => ?_)
        clear hKK KK
        try (simp only [Act.put, List.getElem_toArray, List.getElem_cons_succ, List.getElem_cons_zero, List.setIfInBounds_toArray, List.set_cons_zero, List.set_cons_succ])
        refine wpAnyH_ready (rs := [2, 11]) (by kernel_rfl) (by simp) ?_
        refine (AllReadyH.cons (o := _) rfl (fun KK hKK => ?_) (AllReadyH.cons (o := _) rfl (fun KK hKK => ?_) AllReadyH.nil))
        · obtain ⟨W24, hr24, z24, kk24, hl24⟩ := mkZ (B := w5.heap.size) W23 M hMb (by have := K23.out.size; omega)
          refine step_make_run (by simp [Region.wanted, yielded]) _ _ _ (by rfl) _ _ (by rfl) (by rfl) hr24 ?_
          have Z5_24 := Lib.hid (Z5_23.out.on kk24)
          have Z8_24 := Lib.hid (Z8_23.out.on kk24)
          have Z2_24 := Lib.hid z24
          have K24 := Lib.hid (K23.out.then kk24)
          obtain ⟨g24, hg24⟩ : ∃ g, g = W23.heap.size := ⟨_, rfl⟩
          rw [← hg24] at Z2_24 ⊢
          have L24 : Hid (g23 < g24 ∧ g24 < W24.heap.size) := Lib.hid ⟨by have := L23.out; omega, by omega⟩
          clear hr24 z24 kk24 hl24 hg24
          refine hKK.out _ _ trivial (fun _ => ?_)
          clear hKK KK
          try (simp only [Act.put, List.getElem_toArray, List.getElem_cons_succ, List.getElem_cons_zero, List.setIfInBounds_toArray, List.set_cons_zero, List.set_cons_succ])
          refine wpAnyH_take (i := 12) (v := .slice (some ⟨g24, 0, none⟩) M M) rfl (by kernel_rfl) (by kernel_rfl) (by kernel_rfl) (fun _ _ _ h => h) (Or.inl ⟨by simp [Region.wanted, yielded], fun W hW => by go_simp⟩) trivial ?_
          try (simp only [Act.put, List.getElem_toArray, List.getElem_cons_succ, List.getElem_cons_zero, List.setIfInBounds_toArray, List.set_cons_zero, List.set_cons_succ])
          refine wpAnyH_take (i := 13) (v := .slice (some ⟨g17, 0, none⟩) M M) rfl (by kernel_rfl) (by kernel_rfl) (by kernel_rfl) (fun _ _ _ h => h) (Or.inl ⟨by simp [Region.wanted, yielded], fun W hW => by go_simp⟩) trivial ?_
          try (simp only [Act.put, List.getElem_toArray, List.getElem_cons_succ, List.getElem_cons_zero, List.setIfInBounds_toArray, List.set_cons_zero, List.set_cons_succ])
          refine wpAnyH_take (i := 14) (v := .slice (some ⟨g23, 0, none⟩) M M) rfl (by kernel_rfl) (by kernel_rfl) (by kernel_rfl) (fun _ _ _ h => h) (Or.inl ⟨by simp [Region.wanted, yielded], fun W hW => by go_simp⟩) trivial ?_
          try (simp only [Act.put, List.getElem_toArray, List.getElem_cons_succ, List.getElem_cons_zero, List.setIfInBounds_toArray, List.set_cons_zero, List.set_cons_succ])
          refine wpAnyH_ready (rs := [11]) (by kernel_rfl) (by simp) ?_
          refine (AllReadyH.cons (o := _) rfl (fun KK hKK => ?_) AllReadyH.nil)
          obtain ⟨W25, hr25, z25, kk25, hl25⟩ := mkZ (B := w5.heap.size) W24 M hMb (by have := K24.out.size; omega)
          refine step_make_run (by simp [Region.wanted, yielded]) _ _ _ (by rfl) _ _ (by rfl) (by rfl) hr25 ?_
          have Z5_25 := Lib.hid (Z5_24.out.on kk25)
          have Z8_25 := Lib.hid (Z8_24.out.on kk25)
          have Z2_25 := Lib.hid (Z2_24.out.on kk25)
          have Z11_25 := Lib.hid z25
          have K25 := Lib.hid (K24.out.then kk25)
          obtain ⟨g25, hg25⟩ : ∃ g, g = W24.heap.size := ⟨_, rfl⟩
          rw [← hg25] at Z11_25 ⊢
          have L25 : Hid (g24 < g25 ∧ g25 < W25.heap.size) := Lib.hid ⟨by have := L24.out; omega, by omega⟩
          clear hr25 z25 kk25 hl25 hg25
          refine hKK.out _ _ trivial (fun _ => ?_)
          clear hKK KK
          try (simp only [Act.put, List.getElem_toArray, List.getElem_cons_succ, List.getElem_cons_zero, List.setIfInBounds_toArray, List.set_cons_zero, List.set_cons_succ])
          refine wpAnyH_take (i := 15) (v := .slice (some ⟨g25, 0, none⟩) M M) rfl (by kernel_rfl) (by kernel_rfl) (by kernel_rfl) (fun _ _ _ h => h) (Or.inl ⟨by simp [Region.wanted, yielded], fun W hW => by go_simp⟩) trivial ?_
          try (simp only [Act.put, List.getElem_toArray, List.getElem_cons_succ, List.getElem_cons_zero, List.setIfInBounds_toArray, List.set_cons_zero, List.set_cons_succ])
          refine wpAnyH_done (by kernel_rfl) ?_ _
          go_wp2_with fail
          go_meet
          exact ⟨g24, g17, g23, g25, rfl, rfl, rfl, rfl, Lib.hid ⟨Z2_25.out, Z5_25.out, Z8_25.out, Z11_25.out, by have := L17.out; have := L23.out; have := L24.out; have := L25.out; omega, K25.out⟩⟩
        · obtain ⟨W26, hr26, z26, kk26, hl26⟩ := mkZ (B := w5.heap.size) W23 M hMb (by have := K23.out.size; omega)
          refine step_make_run (by simp [Region.wanted, yielded]) _ _ _ (by rfl) _ _ (by rfl) (by rfl) hr26 ?_
          have Z5_26 := Lib.hid (Z5_23.out.on kk26)
          have Z8_26 := Lib.hid (Z8_23.out.on kk26)
          have Z11_26 := Lib.hid z26
          have K26 := Lib.hid (K23.out.then kk26)
          obtain ⟨g26, hg26⟩ : ∃ g, g = W23.heap.size := ⟨_, rfl⟩
          rw [← hg26] at Z11_26 ⊢
          have L26 : Hid (g23 < g26 ∧ g26 < W26.heap.size) := Lib.hid ⟨by have := L23.out; omega, by omega⟩
          clear hr26 z26 kk26 hl26 hg26
          refine hKK.out _ _ trivial (fun _ => ?_)
          clear hKK KK
          try (simp only [Act.put, List.getElem_toArray, List.getElem_cons_succ, List.getElem_cons_zero, List.setIfInBounds_toArray, List.set_cons_zero, List.set_cons_succ])
          refine wpAnyH_ready (rs := [2]) (by kernel_rfl) (by simp) ?_
          refine (AllReadyH.cons (o := _) rfl (fun KK hKK => ?_) AllReadyH.nil)
          obtain ⟨W27, hr27, z27, kk27, hl27⟩ := mkZ (B := w5.heap.size) W26 M hMb (by have := K26.out.size; omega)
          refine step_make_run (by simp [Region.wanted, yielded]) _ _ _ (by rfl) _ _ (by rfl) (by rfl) hr27 ?_
          have Z5_27 := Lib.hid (Z5_26.out.on kk27)
          have Z8_27 := Lib.hid (Z8_26.out.on kk27)
          have Z11_27 := Lib.hid (Z11_26.out.on kk27)
          have Z2_27 := Lib.hid z27
          have K27 := Lib.hid (K26.out.then kk27)
          obtain ⟨g27, hg27⟩ : ∃ g, g = W26.heap.size := ⟨_, rfl⟩
          rw [← hg27] at Z2_27 ⊢
          have L27 : Hid (g26 < g27 ∧ g27 < W27.heap.size) := Lib.hid ⟨by have := L26.out; omega, by omega⟩
          clear hr27 z27 kk27 hl27 hg27
          refine hKK.out _ _ trivial (fun _ => ?_)
          clear hKK KK
          try (simp only [Act.put, List.getElem_toArray, List.getElem_cons_succ, List.getElem_cons_zero, List.setIfInBounds_toArray, List.set_cons_zero, List.set_cons_succ])
          refine wpAnyH_take (i := 12) (v := .slice (some ⟨g27, 0, none⟩) M M) rfl (by kernel_rfl) (by kernel_rfl) (by kernel_rfl) (fun _ _ _ h => h) (Or.inl ⟨by simp [Region.wanted, yielded], fun W hW => by go_simp⟩) trivial ?_
          try (simp only [Act.put, List.getElem_toArray, List.getElem_cons_succ, List.getElem_cons_zero, List.setIfInBounds_toArray, List.set_cons_zero, List.set_cons_succ])
          refine wpAnyH_take (i := 13) (v := .slice (some ⟨g17, 0, none⟩) M M) rfl (by kernel_rfl) (by kernel_rfl) (by kernel_rfl) (fun _ _ _ h => h) (Or.inl ⟨by simp [Region.wanted, yielded], fun W hW => by go_simp⟩) trivial ?_
          try (simp only [Act.put, List.getElem_toArray, List.getElem_cons_succ, List.getElem_cons_zero, List.setIfInBounds_toArray, List.set_cons_zero, List.set_cons_succ])
          refine wpAnyH_take (i := 14) (v := .slice (some ⟨g23, 0, none⟩) M M) rfl (by kernel_rfl) (by kernel_rfl) (by kernel_rfl) (fun _ _ _ h => h) (Or.inl ⟨by simp [Region.wanted, yielded], fun W hW => by go_simp⟩) trivial ?_
          try (simp only [Act.put, List.getElem_toArray, List.getElem_cons_succ, List.getElem_cons_zero, List.setIfInBounds_toArray, List.set_cons_zero, List.set_cons_succ])
          refine wpAnyH_take (i := 15) (v := .slice (some ⟨g26, 0, none⟩) M M) rfl (by kernel_rfl) (by kernel_rfl) (by kernel_rfl) (fun _ _ _ h => h) (Or.inl ⟨by simp [Region.wanted, yielded], fun W hW => by go_simp⟩) trivial ?_
          try (simp only [Act.put, List.getElem_toArray, List.getElem_cons_succ, List.getElem_cons_zero, List.setIfInBounds_toArray, List.set_cons_zero, List.set_cons_succ])
          refine wpAnyH_done (by kernel_rfl) ?_ _
          go_wp2_with fail
          go_meet
          exact ⟨g27, g17, g23, g26, rfl, rfl, rfl, rfl, Lib.hid ⟨Z2_27.out, Z5_27.out, Z8_27.out, Z11_27.out, by have := L17.out; have := L23.out; have := L26.out; have := L27.out; omega, K27.out⟩⟩
      · obtain ⟨W28, hr28, z28, kk28, hl28⟩ := mkZ (B := w5.heap.size) W17 M hMb (by have := K17.out.size; omega)
        refine step_make_run (by simp [Region.wanted, yielded]) _ _ _ (by rfl) _ _ (by rfl) (by rfl) hr28 ?_
        have Z5_28 := Lib.hid (Z5_17.out.on kk28)
        have Z11_28 := Lib.hid z28
        have K28 := Lib.hid (K17.out.then kk28)
        obtain ⟨g28, hg28⟩ : ∃ g, g = W17.heap.size := ⟨_, rfl⟩
        rw [← hg28] at Z11_28 ⊢
        have L28 : Hid (g17 < g28 ∧ g28 < W28.heap.size) := Lib.hid ⟨by have := L17.out; omega, by omega⟩
        clear hr28 z28 kk28 hl28 hg28
        refine hKK.out _ _ trivial (fun _ => ?_)
        clear hKK KK
        try (simp only [Act.put, List.getElem_toArray, List.getElem_cons_succ, List.getElem_cons_zero, List.setIfInBounds_toArray, List.set_cons_zero, List.set_cons_succ])
        refine wpAnyH_ready (rs := [2, 8]) (by kernel_rfl) (by simp) ?_
        refine (AllReadyH.cons (o := _) rfl (fun KK hKK => ?_) (AllReadyH.cons (o := _) rfl (fun KK hKK => ?_) AllReadyH.nil))
        · obtain ⟨W29, hr29, z29, kk29, hl29⟩ := mkZ (B := w5.heap.size) W28 M hMb (by have := K28.out.size; omega)
          refine step_make_run (by simp [Region.wanted, yielded]) _ _ _ (by rfl) _ _ (by rfl) (by rfl) hr29 ?_
          have Z5_29 := Lib.hid (Z5_28.out.on kk29)
          have Z11_29 := Lib.hid (Z11_28.out.on kk29)
          have Z2_29 := Lib.hid z29
          have K29 := Lib.hid (K28.out.then kk29)
          obtain ⟨g29, hg29⟩ : ∃ g, g = W28.heap.size := ⟨_, rfl⟩
          rw [← hg29] at Z2_29 ⊢
          have L29 : Hid (g28 < g29 ∧ g29 < W29.heap.size) := Lib.hid ⟨by have := L28.out; omega, by omega⟩
          clear hr29 z29 kk29 hl29 hg29
          refine hKK.out _ _ trivial (fun _ => ?_)
          clear hKK KK
          try (simp only [Act.put, List.getElem_toArray, List.getElem_cons_succ, List.getElem_cons_zero, List.setIfInBounds_toArray, List.set_cons_zero, List.set_cons_succ])
          refine wpAnyH_take (i := 12) (v := .slice (some ⟨g29, 0, none⟩) M M) rfl (by kernel_rfl) (by kernel_rfl) (by kernel_rfl) (fun _ _ _ h => h) (Or.inl ⟨by simp [Region.wanted, yielded], fun W hW => by go_simp⟩) trivial ?_
          try (simp only [Act.put, List.getElem_toArray, List.getElem_cons_succ, List.getElem_cons_zero, List.setIfInBounds_toArray, List.set_cons_zero, List.set_cons_succ])
          refine wpAnyH_take (i := 13) (v := .slice (some ⟨g17, 0, none⟩) M M) rfl (by kernel_rfl) (by kernel_rfl) (by kernel_rfl) (fun _ _ _ h => h) (Or.inl ⟨by simp [Region.wanted, yielded], fun W hW => by go_simp⟩) trivial ?_
          try (simp only [Act.put, List.getElem_toArray, List.getElem_cons_succ, List.getElem_cons_zero, List.setIfInBounds_toArray, List.set_cons_zero, List.set_cons_succ])
          refine wpAnyH_ready (rs := [8]) (by kernel_rfl) (by simp) ?_
          refine (AllReadyH.cons (o := _) rfl (fun KK hKK => ?_) AllReadyH.nil)
          obtain ⟨W30, hr30, z30, kk30, hl30⟩ := mkZ (B := w5.heap.size) W29 M hMb (by have := K29.out.size; omega)
          refine step_make_run (by simp [Region.wanted, yielded]) _ _ _ (by rfl) _ _ (by rfl) (by rfl) hr30 ?_
          have Z5_30 := Lib.hid (Z5_29.out.on kk30)
          have Z11_30 := Lib.hid (Z11_29.out.on kk30)
          have Z2_30 := Lib.hid (Z2_29.out.on kk30)
          have Z8_30 := Lib.hid z30
          have K30 := Lib.hid (K29.out.then kk30)
          obtain ⟨g30, hg30⟩ : ∃ g, g = W29.heap.size := ⟨_, rfl⟩
          rw [← hg30] at Z8_30 ⊢
          have L30 : Hid (g29 < g30 ∧ g30 < W30.heap.size) := Lib.hid ⟨by have := L29.out; omega, by omega⟩
          clear hr30 z30 kk30 hl30 hg30
          refine hKK.out _ _ trivial (fun _ => ?_)
          clear hKK KK
          try (simp only [Act.put, List.getElem_toArray, List.getElem_cons_succ, List.getElem_cons_zero, List.setIfInBounds_toArray, List.set_cons_zero, List.set_cons_succ])
          refine wpAnyH_take (i := 14) (v := .slice (some ⟨g30, 0, none⟩) M M) rfl (by kernel_rfl) (by kernel_rfl) (by kernel_rfl) (fun _ _ _ h => h) (Or.inl ⟨by simp [Region.wanted, yielded], fun W hW => by go_simp⟩) trivial ?_
          try (simp only [Act.put, List.getElem_toArray, List.getElem_cons_succ, List.getElem_cons_zero, List.setIfInBounds_toArray, List.set_cons_zero, List.set_cons_succ])
          refine wpAnyH_take (i := 15) (v := .slice (some ⟨g28, 0, none⟩) M M) rfl (by kernel_rfl) (by kernel_rfl) (by kernel_rfl) (fun _ _ _ h => h) (Or.inl ⟨by simp [Region.wanted, yielded], fun W hW => by go_simp⟩) trivial ?_
          try (simp only [Act.put, List.getElem_toArray, List.getElem_cons_succ, List.getElem_cons_zero, List.setIfInBounds_toArray, List.set_cons_zero, List.set_cons_succ])
          refine wpAnyH_done (by kernel_rfl) ?_ _
          go_wp2_with fail
          go_meet
          exact ⟨g29, g17, g30, g28, rfl, rfl, rfl, rfl, Lib.hid ⟨Z2_30.out, Z5_30.out, Z8_30.out, Z11_30.out, by have := L17.out; have := L28.out; have := L29.out; have := L30.out; omega, K30.out⟩⟩
        · obtain ⟨W31, hr31, z31, kk31, hl31⟩ := mkZ (B := w5.heap.size) W28 M hMb (by have := K28.out.size; omega)
          refine step_make_run (by simp [Region.wanted, yielded]) _ _ _ (by rfl) _ _ (by rfl) (by rfl) hr31 ?_
          have Z5_31 := Lib.hid (Z5_28.out.on kk31)
          have Z11_31 := Lib.hid (Z11_28.out.on kk31)
          have Z8_31 := Lib.hid z31
          have K31 := Lib.hid (K28.out.then kk31)
          obtain ⟨g31, hg31⟩ : ∃ g, g = W28.heap.size := ⟨_, rfl⟩
          rw [← hg31] at Z8_31 ⊢
          have L31 : Hid (g28 < g31 ∧ g31 < W31.heap.size) := Lib.hid ⟨by have := L28.out; omega, by omega⟩
          clear hr31 z31 kk31 hl31 hg31
          refine hKK.out _ _ trivial (fun _ => ?_)
          clear hKK KK
          try (simp only [Act.put, List.getElem_toArray, List.getElem_cons_succ, List.getElem_cons_zero, List.setIfInBounds_toArray, List.set_cons_zero, List.set_cons_succ])
          refine wpAnyH_ready (rs := [2]) (by kernel_rfl) (by simp) ?_
          refine (AllReadyH.cons (o := _) rfl (fun KK hKK => ?_) AllReadyH.nil)
          obtain ⟨W32, hr32, z32, kk32, hl32⟩ := mkZ (B := w5.heap.size) W31 M hMb (by have := K31.out.size; omega)
          refine step_make_run (by simp [Region.wanted, yielded]) _ _ _ (by rfl) _ _ (by rfl) (by rfl) hr32 ?_
          have Z5_32 := Lib.hid (Z5_31.out.on kk32)
          have Z11_32 := Lib.hid (Z11_31.out.on kk32)
          have Z8_32 := Lib.hid (Z8_31.out.on kk32)
          have Z2_32 := Lib.hid z32
          have K32 := Lib.hid (K31.out.then kk32)
          obtain ⟨g32, hg32⟩ : ∃ g, g = W31.heap.size := ⟨_, rfl⟩
          rw [← hg32] at Z2_32 ⊢
          have L32 : Hid (g31 < g32 ∧ g32 < W32.heap.size) := Lib.hid ⟨by have := L31.out; omega, by omega⟩
          clear hr32 z32 kk32 hl32 hg32
          refine hKK.out _ _ trivial (fun _ => ?_)
          clear hKK KK
          try (simp only [Act.put, List.getElem_toArray, List.getElem_cons_succ, List.getElem_cons_zero, List.setIfInBounds_toArray, List.set_cons_zero, List.set_cons_succ])
          refine wpAnyH_take (i := 12) (v := .slice (some ⟨g32, 0, none⟩) M M) rfl (by kernel_rfl) (by kernel_rfl) (by kernel_rfl) (fun _ _ _ h => h) (Or.inl ⟨by simp [Region.wanted, yielded], fun W hW => by go_simp⟩) trivial ?_
          try (simp only [Act.put, List.getElem_toArray, List.getElem_cons_succ, List.getElem_cons_zero, List.setIfInBounds_toArray, List.set_cons_zero, List.set_cons_succ])
          refine wpAnyH_take (i := 13) (v := .slice (some ⟨g17, 0, none⟩) M M) rfl (by kernel_rfl) (by kernel_rfl) (by kernel_rfl) (fun _ _ _ h => h) (Or.inl ⟨by simp [Region.wanted, yielded], fun W hW => by go_simp⟩) trivial ?_
          try (simp only [Act.put, List.getElem_toArray, List.getElem_cons_succ, List.getElem_cons_zero, List.setIfInBounds_toArray, List.set_cons_zero, List.set_cons_succ])
          refine wpAnyH_take (i := 14) (v := .slice (some ⟨g31, 0, none⟩) M M) rfl (by kernel_rfl) (by kernel_rfl) (by kernel_rfl) (fun _ _ _ h => h) (Or.inl ⟨by simp [Region.wanted, yielded], fun W hW => by go_simp⟩) trivial ?_
          try (simp only [Act.put, List.getElem_toArray, List.getElem_cons_succ, List.getElem_cons_zero, List.setIfInBounds_toArray, List.set_cons_zero, List.set_cons_succ])
          refine wpAnyH_take (i := 15) (v := .slice (some ⟨g28, 0, none⟩) M M) rfl (by kernel_rfl) (by kernel_rfl) (by kernel_rfl) (fun _ _ _ h => h) (Or.inl ⟨by simp [Region.wanted, yielded], fun W hW => by go_simp⟩) trivial ?_
          try (simp only [Act.put, List.getElem_toArray, List.getElem_cons_succ, List.getElem_cons_zero, List.setIfInBounds_toArray, List.set_cons_zero, List.set_cons_succ])
          refine wpAnyH_done (by kernel_rfl) ?_ _
          go_wp2_with fail
          go_meet
          exact ⟨g32, g17, g31, g28, rfl, rfl, rfl, rfl, Lib.hid ⟨Z2_32.out, Z5_32.out, Z8_32.out, Z11_32.out, by have := L17.out; have := L28.out; have := L31.out; have := L32.out; omega, K32.out⟩⟩
    · obtain ⟨W33, hr33, z33, kk33, hl33⟩ := mkZ (B := w5.heap.size) Wd M hMb (by have := KD.out.size; omega)
      refine step_make_run (by simp [Region.wanted, yielded]) _ _ _ (by rfl) _ _ (by rfl) (by rfl) hr33 ?_
      have Z8_33 := Lib.hid z33
      have K33 := Lib.hid (KD.out.then kk33)
      obtain ⟨g33, hg33⟩ : ∃ g, g = Wd.heap.size := ⟨_, rfl⟩
      rw [← hg33] at Z8_33 ⊢
      have L33 : Hid (w5.heap.size ≤ g33 ∧ g33 < W33.heap.size) := Lib.hid ⟨by have := KD.out.size; omega, by omega⟩
      clear hr33 z33 kk33 hl33 hg33
      refine hKK.out _ _ trivial (fun _ => ?_)
      clear hKK KK
      try (simp only [Act.put, List.getElem_toArray, List.getElem_cons_succ, List.getElem_cons_zero, List.setIfInBounds_toArray, List.set_cons_zero, List.set_cons_succ])
      refine wpAnyH_ready (rs := [2, 5, 11]) (by kernel_rfl) (by simp) ?_
      refine (AllReadyH.cons (o := _) rfl (fun KK hKK => ?_) (AllReadyH.cons (o := _) rfl (fun KK hKK => ?_) (AllReadyH.cons (o := _) rfl (fun KK hKK => ?_) AllReadyH.nil)))
      · obtain ⟨W34, hr34, z34, kk34, hl34⟩ := mkZ (B := w5.heap.size) W33 M hMb (by have := K33.out.size; omega)
        refine step_make_run (by simp [Region.wanted, yielded]) _ _ _ (by rfl) _ _ (by rfl) (by rfl) hr34 ?_
        have Z8_34 := Lib.hid (Z8_33.out.on kk34)
        have Z2_34 := Lib.hid z34
        have K34 := Lib.hid (K33.out.then kk34)
        obtain ⟨g34, hg34⟩ : ∃ g, g = W33.heap.size := ⟨_, rfl⟩
        rw [← hg34] at Z2_34 ⊢
        have L34 : Hid (g33 < g34 ∧ g34 < W34.heap.size) := Lib.hid ⟨by have := L33.out; omega, by omega⟩
        clear hr34 z34 kk34 hl34 hg34
        refine hKK.out _ _ trivial (fun _ => ?_)
        clear hKK KK
        try (simp only [Act.put, List.getElem_toArray, List.getElem_cons_succ, List.getElem_cons_zero, List.setIfInBounds_toArray, List.set_cons_zero, List.set_cons_succ])
        refine wpAnyH_take (i := 12) (v := .slice (some ⟨g34, 0, none⟩) M M) rfl (by kernel_rfl) (by kernel_rfl) (by kernel_rfl) (fun _ _ _ h => h) (Or.inl ⟨by simp [Region.wanted, yielded], fun W hW => by go_simp⟩) trivial ?_
        try (simp only [Act.put, List.getElem_toArray, List.getElem_cons_succ, List.getElem_cons_zero, List.setIfInBounds_toArray, List.set_cons_zero, List.set_cons_succ])
        refine wpAnyH_ready (rs := [5, 11]) (by kernel_rfl) (by simp) ?_
        refine (AllReadyH.cons (o := _) rfl (fun KK hKK => ?_) (AllReadyH.cons (o := _) rfl (fun KK hKK => ?_) AllReadyH.nil))
        · obtain ⟨W35, hr35, z35, kk35, hl35⟩ := mkZ (B := w5.heap.size) W34 M hMb (by have := K34.out.size; omega)
          refine step_make_run (by simp [Region.wanted, yielded]) _ _ _ (by rfl) _ _ (by rfl) (by rfl) hr35 ?_
          have Z8_35 := Lib.hid (Z8_34.out.on kk35)
          have Z2_35 := Lib.hid (Z2_34.out.on kk35)
          have Z5_35 := Lib.hid z35
          have K35 := Lib.hid (K34.out.then kk35)
          obtain ⟨g35, hg35⟩ : ∃ g, g = W34.heap.size := ⟨_, rfl⟩
          rw [← hg35] at Z5_35 ⊢
          have L35 : Hid (g34 < g35 ∧ g35 < W35.heap.size) := Lib.hid ⟨by have := L34.out; omega, by omega⟩
          clear hr35 z35 kk35 hl35 hg35
          refine hKK.out _ _ trivial (fun _ => ?_)
          clear hKK KK
          try (simp only [Act.put, List.getElem_toArray, List.getElem_cons_succ, List.getElem_cons_zero, List.setIfInBounds_toArray, List.set_cons_zero, List.set_cons_succ])
          refine wpAnyH_take (i := 13) (v := .slice (some ⟨g35, 0, none⟩) M M) rfl (by kernel_rfl) (by kernel_rfl) (by kernel_rfl) (fun _ _ _ h => h) (Or.inl ⟨by simp [Region.wanted, yielded], fun W hW => by go_simp⟩) trivial ?_
          try (simp only [Act.put, List.getElem_toArray, List.getElem_cons_succ, List.getElem_cons_zero, List.setIfInBounds_toArray, List.set_cons_zero, List.set_cons_succ])
          refine wpAnyH_take (i := 14) (v := .slice (some ⟨g33, 0, none⟩) M M) rfl (by kernel_rfl) (by kernel_rfl) (by kernel_rfl) (fun _ _ _ h => h) (Or.inl ⟨by simp [Region.wanted, yielded], fun W hW => by go_simp⟩) trivial ?_
          try (simp only [Act.put, List.getElem_toArray, List.getElem_cons_succ, List.getElem_cons_zero, List.setIfInBounds_toArray, List.set_cons_zero, List.set_cons_succ])
          refine wpAnyH_ready (rs := [11]) (by kernel_rfl) (by simp) ?_
          refine (AllReadyH.cons (o := _) rfl (fun KK hKK => ?_) AllReadyH.nil)
          obtain ⟨W36, hr36, z36, kk36, hl36⟩ := mkZ (B := w5.heap.size) W35 M hMb (by have := K35.out.size; omega)
          refine step_make_run (by simp [Region.wanted, yielded]) _ _ _ (by rfl) _ _ (by rfl) (by rfl) hr36 ?_
          have Z8_36 := Lib.hid (Z8_35.out.on kk36)
          have Z2_36 := Lib.hid (Z2_35.out.on kk36)
          have Z5_36 := Lib.hid (Z5_35.out.on kk36)
          have Z11_36 := Lib.hid z36
          have K36 := Lib.hid (K35.out.then kk36)
          obtain ⟨g36, hg36⟩ : ∃ g, g = W35.heap.size := ⟨_, rfl⟩
          rw [← hg36] at Z11_36 ⊢
          have L36 : Hid (g35 < g36 ∧ g36 < W36.heap.size) := Lib.hid ⟨by have := L35.out; omega, by omega⟩
          clear hr36 z36 kk36 hl36 hg36
          refine hKK.out _ _ trivial (fun _ => ?_)
          clear hKK KK
          try (simp only [Act.put, List.getElem_toArray, List.getElem_cons_succ, List.getElem_cons_zero, List.setIfInBounds_toArray, List.set_cons_zero, List.set_cons_succ])
          refine wpAnyH_take (i := 15) (v := .slice (some ⟨g36, 0, none⟩) M M) rfl (by kernel_rfl) (by kernel_rfl) (by kernel_rfl) (fun _ _ _ h => h) (Or.inl ⟨by simp [Region.wanted, yielded], fun W hW => by go_simp⟩) trivial ?_
          try (simp only [Act.put, List.getElem_toArray, List.getElem_cons_succ, List.getElem_cons_zero, List.setIfInBounds_toArray, List.set_cons_zero, List.set_cons_succ])
          refine wpAnyH_done (by kernel_rfl) ?_ _
          go_wp2_with fail
          go_meet
          exact ⟨g34, g35, g33, g36, rfl, rfl, rfl, rfl, Lib.hid ⟨Z2_36.out, Z5_36.out, Z8_36.out, Z11_36.out, by have := L33.out; have := L34.out; have := L35.out; have := L36.out; omega, K36.out⟩⟩
        · obtain ⟨W37, hr37, z37, kk37, hl37⟩ := mkZ (B := w5.heap.size) W34 M hMb (by have := K34.out.size; omega)
          refine step_make_run (by simp [Region.wanted, yielded]) _ _ _ (by rfl) _ _ (by rfl) (by rfl) hr37 ?_
          have Z8_37 := Lib.hid (Z8_34.out.on kk37)
          have Z2_37 := Lib.hid (Z2_34.out.on kk37)
          have Z11_37 := Lib.hid z37
          have K37 := Lib.hid (K34.out.then kk37)
          obtain ⟨g37, hg37⟩ : ∃ g, g = W34.heap.size := ⟨_, rfl⟩
          rw [← hg37] at Z11_37 ⊢
          have L37 : Hid (g34 < g37 ∧ g37 < W37.heap.size) := Lib.hid ⟨by have := L34.out; omega, by omega⟩
          clear hr37 z37 kk37 hl37 hg37
          refine hKK.out _ _ trivial (fun _ => ?_)
          clear hKK KK
          try (simp only [Act.put, List.getElem_toArray, List.getElem_cons_succ, List.getElem_cons_zero, List.setIfInBounds_toArray, List.set_cons_zero, List.set_cons_succ])
          refine wpAnyH_ready (rs := [5]) (by kernel_rfl) (by simp) ?_
          refine (AllReadyH.cons (o := _) rfl (fun KK hKK => ?_) AllReadyH.nil)
          obtain ⟨W38, hr38, z38, kk38, hl38⟩ := mkZ (B := w5.heap.size) W37 M hMb (by have := K37.out.size; omega)
          refine step_make_run (by simp [Region.wanted, yielded]) _ _ _ (by rfl) _ _ (by rfl) (by rfl) hr38 ?_
          have Z8_38 := Lib.hid (Z8_37.out.on kk38)
          have Z2_38 := Lib.hid (Z2_37.out.on kk38)
          have Z11_38 := Lib.hid (Z11_37.out.on kk38)
          have Z5_38 := Lib.hid z38
          have K38 := Lib.hid (K37.out.then kk38)
          obtain ⟨g38, hg38⟩ : ∃ g, g = W37.heap.size := ⟨_, rfl⟩
          rw [← hg38] at Z5_38 ⊢
          have L38 : Hid (g37 < g38 ∧ g38 < W38.heap.size) := Lib.hid ⟨by have := L37.out; omega, by omega⟩
          clear hr38 z38 kk38 hl38 hg38
          refine hKK.out _ _ trivial (fun _ => ?_)
          clear hKK KK
          try (simp only [Act.put, List.getElem_toArray, List.getElem_cons_succ, List.getElem_cons_zero, List.setIfInBounds_toArray, List.set_cons_zero, List.set_cons_succ])
          refine wpAnyH_take (i := 13) (v := .slice (some ⟨g38, 0, none⟩) M M) rfl (by kernel_rfl) (by kernel_rfl) (by kernel_rfl) (fun _ _ _ h => h) (Or.inl ⟨by simp [Region.wanted, yielded], fun W hW => by go_simp⟩) trivial ?_
          try (simp only [Act.put, List.getElem_toArray, List.getElem_cons_succ, List.getElem_cons_zero, List.setIfInBounds_toArray, List.set_cons_zero, List.set_cons_succ])
          refine wpAnyH_take (i := 14) (v := .slice (some ⟨g33, 0, none⟩) M M) rfl (by kernel_rfl) (by kernel_rfl) (by kernel_rfl) (fun _ _ _ h => h) (Or.inl ⟨by simp [Region.wanted, yielded], fun W hW => by go_simp⟩) trivial ?_
          try (simp only [Act.put, List.getElem_toArray, List.getElem_cons_succ, List.getElem_cons_zero, List.setIfInBounds_toArray, List.set_cons_zero, List.set_cons_succ])
          refine wpAnyH_take (i := 15) (v := .slice (some ⟨g37, 0, none⟩) M M) rfl (by kernel_rfl) (by kernel_rfl) (by kernel_rfl) (fun _ _ _ h => h) (Or.inl ⟨by simp [Region.wanted, yielded], fun W hW => by go_simp⟩) trivial ?_
          try (simp only [Act.put, List.getElem_toArray, List.getElem_cons_succ, List.getElem_cons_zero, List.setIfInBounds_toArray, List.set_cons_zero, List.set_cons_succ])
          refine wpAnyH_done (by kernel_rfl) ?_ _
          go_wp2_with fail
          go_meet
          exact ⟨g34, g38, g33, g37, rfl, rfl, rfl, rfl, Lib.hid ⟨Z2_38.out, Z5_38.out, Z8_38.out, Z11_38.out, by have := L33.out; have := L34.out; have := L37.out; have := L38.out; omega, K38.out⟩⟩
      · obtain ⟨W39, hr39, z39, kk39, hl39⟩ := mkZ (B := w5.heap.size) W33 M hMb (by have := K33.out.size; omega)
        refine step_make_run (by simp [Region.wanted, yielded]) _ _ _ (by rfl) _ _ (by rfl) (by rfl) hr39 ?_
        have Z8_39 := Lib.hid (Z8_33.out.on kk39)
        have Z5_39 := Lib.hid z39
        have K39 := Lib.hid (K33.out.then kk39)
        obtain ⟨g39, hg39⟩ : ∃ g, g = W33.heap.size := ⟨_, rfl⟩
        rw [← hg39] at Z5_39 ⊢
        have L39 : Hid (g33 < g39 ∧ g39 < W39.heap.size) := Lib.hid ⟨by have := L33.out; omega, by omega⟩
        clear hr39 z39 kk39 hl39 hg39
        refine hKK.out _ _ trivial (fun _ => ?_)
        clear hKK KK
        try (simp only [Act.put, List.getElem_toArray, List.getElem_cons_succ, List.getElem_cons_zero, List.setIfInBounds_toArray, List.set_cons_zero, List.set_cons_succ])
        refine wpAnyH_ready (rs := [2, 11]) (by kernel_rfl) (by simp) ?_
        refine (AllReadyH.cons (o := _) rfl (fun KK hKK => ?_) (AllReadyH.cons (o := _) rfl (fun KK hKK => ?_) AllReadyH.nil))
        · obtain ⟨W40, hr40, z40, kk40, hl40⟩ := mkZ (B := w5.heap.size) W39 M hMb (by have := K39.out.size; omega)
          refine step_make_run (by simp [Region.wanted, yielded]) _ _ _ (by rfl) _ _ (by rfl) (by rfl) hr40 ?_
          have Z8_40 := Lib.hid (Z8_39.out.on kk40)
          have Z5_40 := Lib.hid (Z5_39.out.on kk40)
          have Z2_40 := Lib.hid z40
          have K40 := Lib.hid (K39.out.then kk40)
          obtain ⟨g40, hg40⟩ : ∃ g, g = W39.heap.size := ⟨_, rfl⟩
          rw [← hg40] at Z2_40 ⊢
          have L40 : Hid (g39 < g40 ∧ g40 < W40.heap.size) := Lib.hid ⟨by have := L39.out; omega, by omega⟩
          clear hr40 z40 kk40 hl40 hg40
          refine hKK.out _ _ trivial (fun _ => ?_)
          clear hKK KK
          try (simp only [Act.put, List.getElem_toArray, List.getElem_cons_succ, List.getElem_cons_zero, List.setIfInBounds_toArray, List.set_cons_zero, List.set_cons_succ])
          refine wpAnyH_take (i := 12) (v := .slice (some ⟨g40, 0, none⟩) M M) rfl (by kernel_rfl) (by kernel_rfl) (by kernel_rfl) (fun _ _ _ h => h) (Or.inl ⟨by simp [Region.wanted, yielded], fun W hW => by go_simp⟩) trivial ?_
          try (simp only [Act.put, List.getElem_toArray, List.getElem_cons_succ, List.getElem_cons_zero, List.setIfInBounds_toArray, List.set_cons_zero, List.set_cons_succ])
          refine wpAnyH_take (i := 13) (v := .slice (some ⟨g39, 0, none⟩) M M) rfl (by kernel_rfl) (by kernel_rfl) (by kernel_rfl) (fun _ _ _ h => h) (Or.inl ⟨by simp [Region.wanted, yielded], fun W hW => by go_simp⟩) trivial ?_
          try (simp only [Act.put, List.getElem_toArray, List.getElem_cons_succ, List.getElem_cons_zero, List.setIfInBounds_toArray, List.set_cons_zero, List.set_cons_succ])
          refine wpAnyH_take (i := 14) (v := .slice (some ⟨g33, 0, none⟩) M M) rfl (by kernel_rfl) (by kernel_rfl) (by kernel_rfl) (fun _ _ _ h => h) (Or.inl ⟨by simp [Region.wanted, yielded], fun W hW => by go_simp⟩) trivial ?_
          try (simp only [Act.put, List.getElem_toArray, List.getElem_cons_succ, List.getElem_cons_zero, List.setIfInBounds_toArray, List.set_cons_zero, List.set_cons_succ])
          refine wpAnyH_ready (rs := [11]) (by kernel_rfl) (by simp) ?_
          refine (AllReadyH.cons (o := _) rfl (fun KK hKK => ?_) AllReadyH.nil)
          obtain ⟨W41, hr41, z41, kk41, hl41⟩ := mkZ (B := w5.heap.size) W40 M hMb (by have := K40.out.size; omega)
          refine step_make_run (by simp [Region.wanted, yielded]) _ _ _ (by rfl) _ _ (by rfl) (by rfl) hr41 ?_
          have Z8_41 := Lib.hid (Z8_40.out.on kk41)
          have Z5_41 := Lib.hid (Z5_40.out.on kk41)
          have Z2_41 := Lib.hid (Z2_40.out.on kk41)
          have Z11_41 := Lib.hid z41
          have K41 := Lib.hid (K40.out.then kk41)
          obtain ⟨g41, hg41⟩ : ∃ g, g = W40.heap.size := ⟨_, rfl⟩
          rw [← hg41] at Z11_41 ⊢
          have L41 : Hid (g40 < g41 ∧ g41 < W41.heap.size) := Lib.hid ⟨by have := L40.out; omega, by omega⟩
          clear hr41 z41 kk41 hl41 hg41
          refine hKK.out _ _ trivial (fun _ => ?_)
          clear hKK KK
          try (simp only [Act.put, List.getElem_toArray, List.getElem_cons_succ, List.getElem_cons_zero, List.setIfInBounds_toArray, List.set_cons_zero, List.set_cons_succ])
          refine wpAnyH_take (i := 15) (v := .slice (some ⟨g41, 0, none⟩) M M) rfl (by kernel_rfl) (by kernel_rfl) (by kernel_rfl) (fun _ _ _ h => h) (Or.inl ⟨by simp [Region.wanted, yielded], fun W hW => by go_simp⟩) trivial ?_
          try (simp only [Act.put, List.getElem_toArray, List.getElem_cons_succ, List.getElem_cons_zero, List.setIfInBounds_toArray, List.set_cons_zero, List.set_cons_succ])
          refine wpAnyH_done (by kernel_rfl) ?_ _
          go_wp2_with fail
          go_meet
          exact ⟨g40, g39, g33, g41, rfl, rfl, rfl, rfl, Lib.hid ⟨Z2_41.out, Z5_41.out, Z8_41.out, Z11_41.out, by have := L33.out; have := L39.out; have := L40.out; have := L41.out; omega, K41.out⟩⟩
        · obtain ⟨W42, hr42, z42, kk42, hl42⟩ := mkZ (B := w5.heap.size) W39 M hMb (by have := K39.out.size; omega)
          refine step_make_run (by simp [Region.wanted, yielded]) _ _ _ (by rfl) _ _ (by rfl) (by rfl) hr42 ?_
          have Z8_42 := Lib.hid (Z8_39.out.on kk42)
          have Z5_42 := Lib.hid (Z5_39.out.on kk42)
          have Z11_42 := Lib.hid z42
          have K42 := Lib.hid (K39.out.then kk42)
          obtain ⟨g42, hg42⟩ : ∃ g, g = W39.heap.size := ⟨_, rfl⟩
          rw [← hg42] at Z11_42 ⊢
          have L42 : Hid (g39 < g42 ∧ g42 < W42.heap.size) := Lib.hid ⟨by have := L39.out; omega, by omega⟩
          clear hr42 z42 kk42 hl42 hg42
          refine hKK.out _ _ trivial (fun _ => ?_)
          clear hKK KK
          try (simp only [Act.put, List.getElem_toArray, List.getElem_cons_succ, List.getElem_cons_zero, List.setIfInBounds_toArray, List.set_cons_zero, List.set_cons_succ])
          refine wpAnyH_ready (rs := [2]) (by kernel_rfl) (by simp) ?_
          refine (AllReadyH.cons (o := _) rfl (fun KK hKK => ?_) AllReadyH.nil)
          obtain ⟨W43, hr43, z43, kk43, hl43⟩ := mkZ (B := w5.heap.size) W42 M hMb (by have := K42.out.size; omega)
          refine step_make_run (by simp [Region.wanted, yielded]) _ _ _ (by rfl) _ _ (by rfl) (by rfl) hr43 ?_
          have Z8_43 := Lib.hid (Z8_42.out.on kk43)
          have Z5_43 := Lib.hid (Z5_42.out.on kk43)
          have Z11_43 := Lib.hid (Z11_42.out.on kk43)
          have Z2_43 := Lib.hid z43
          have K43 := Lib.hid (K42.out.then kk43)
          obtain ⟨g43, hg43⟩ : ∃ g, g = W42.heap.size := ⟨_, rfl⟩
          rw [← hg43] at Z2_43 ⊢
          have L43 : Hid (g42 < g43 ∧ g43 < W43.heap.size) := Lib.hid ⟨by have := L42.out; omega, by omega⟩
          clear hr43 z43 kk43 hl43 hg43
          refine hKK.out _ _ trivial (fun _ => ?_)
          clear hKK KK
          try (simp only [Act.put, List.getElem_toArray, List.getElem_cons_succ, List.getElem_cons_zero, List.setIfInBounds_toArray, List.set_cons_zero, List.set_cons_succ])
          refine wpAnyH_take (i := 12) (v := .slice (some ⟨g43, 0, none⟩) M M) rfl (by kernel_rfl) (by kernel_rfl) (by kernel_rfl) (fun _ _ _ h => h) (Or.inl ⟨by simp [Region.wanted, yielded], fun W hW => by go_simp⟩) trivial ?_
          try (simp only [Act.put, List.getElem_toArray, List.getElem_cons_succ, List.getElem_cons_zero, List.setIfInBounds_toArray, List.set_cons_zero, List.set_cons_succ])
          refine wpAnyH_take (i := 13) (v := .slice (some ⟨g39, 0, none⟩) M M) rfl (by kernel_rfl) (by kernel_rfl) (by kernel_rfl) (fun _ _ _ h => h) (Or.inl ⟨by simp [Region.wanted, yielded], fun W hW => by go_simp⟩) trivial ?_
          try (simp only [Act.put, List.getElem_toArray, List.getElem_cons_succ, List.getElem_cons_zero, List.setIfInBounds_toArray, List.set_cons_zero, List.set_cons_succ])
          refine wpAnyH_take (i := 14) (v := .slice (some ⟨g33, 0, none⟩) M M) rfl (by kernel_rfl) (by kernel_rfl) (by kernel_rfl) (fun _ _ _ h => h) (Or.inl ⟨by simp [Region.wanted, yielded], fun W hW => by go_simp⟩) trivial ?_
          try (simp only [Act.put, List.getElem_toArray, List.getElem_cons_succ, List.getElem_cons_zero, List.setIfInBounds_toArray, List.set_cons_zero, List.set_cons_succ])
          refine wpAnyH_take (i := 15) (v := .slice (some ⟨g42, 0, none⟩) M M) rfl (by kernel_rfl) (by kernel_rfl) (by kernel_rfl) (fun _ _ _ h => h) (Or.inl ⟨by simp [Region.wanted, yielded], fun W hW => by go_simp⟩) trivial ?_
          try (simp only [Act.put, List.getElem_toArray, List.getElem_cons_succ, List.getElem_cons_zero, List.setIfInBounds_toArray, List.set_cons_zero, List.set_cons_succ])
          refine wpAnyH_done (by kernel_rfl) ?_ _
          go_wp2_with fail
          go_meet
          exact ⟨g43, g39, g33, g42, rfl, rfl, rfl, rfl, Lib.hid ⟨Z2_43.out, Z5_43.out, Z8_43.out, Z11_43.out, by have := L33.out; have := L39.out; have := L42.out; have := L43.out; omega, K43.out⟩⟩
      · obtain ⟨W44, hr44, z44, kk44, hl44⟩ := mkZ (B := w5.heap.size) W33 M hMb (by have := K33.out.size; omega)
        refine step_make_run (by simp [Region.wanted, yielded]) _ _ _ (by rfl) _ _ (by rfl) (by rfl) hr44 ?_
        have Z8_44 := Lib.hid (Z8_33.out.on kk44)
        have Z11_44 := Lib.hid z44
        have K44 := Lib.hid (K33.out.then kk44)
        obtain ⟨g44, hg44⟩ : ∃ g, g = W33.heap.size := ⟨_, rfl⟩
        rw [← hg44] at Z11_44 ⊢
        have L44 : Hid (g33 < g44 ∧ g44 < W44.heap.size) := Lib.hid ⟨by have := L33.out; omega, by omega⟩
        clear hr44 z44 kk44 hl44 hg44
        refine hKK.out _ _ trivial (fun _ => ?_)
        clear hKK KK
        try (simp only [Act.put, List.getElem_toArray, List.getElem_cons_succ, List.getElem_cons_zero, List.setIfInBounds_toArray, List.set_cons_zero, List.set_cons_succ])
        refine wpAnyH_ready (rs := [2, 5]) (by kernel_rfl) (by simp) ?_
        refine (AllReadyH.cons (o := _) rfl (fun KK hKK => ?_) (AllReadyH.cons (o := _) rfl (fun KK hKK => ?_) AllReadyH.nil))
        · obtain ⟨W45, hr45, z45, kk45, hl45⟩ := mkZ (B := w5.heap.size) W44 M hMb (by have := K44.out.size; omega)
          refine step_make_run (by simp [Region.wanted, yielded]) _ _ _ (by rfl) _ _ (by rfl) (by rfl) hr45 ?_
          have Z8_45 := Lib.hid (Z8_44.out.on kk45)
          have Z11_45 := Lib.hid (Z11_44.out.on kk45)
          have Z2_45 := Lib.hid z45
          have K45 := Lib.hid (K44.out.then kk45)
          obtain ⟨g45, hg45⟩ : ∃ g, g = W44.heap.size := ⟨_, rfl⟩
          rw [← hg45] at Z2_45 ⊢
          have L45 : Hid (g44 < g45 ∧ g45 < W45.heap.size) := Lib.hid ⟨by have := L44.out; omega, by omega⟩
          clear hr45 z45 kk45 hl45 hg45
          refine hKK.out _ _ trivial (fun _ => ?_)
          clear hKK KK
          try (simp only [Act.put, List.getElem_toArray, List.getElem_cons_succ, List.getElem_cons_zero, List.setIfInBounds_toArray, List.set_cons_zero, List.set_cons_succ])
          refine wpAnyH_take (i := 12) (v := .slice (some ⟨g45, 0, none⟩) M M) rfl (by kernel_rfl) (by kernel_rfl) (by kernel_rfl) (fun _ _ _ h => h) (Or.inl ⟨by simp [Region.wanted, yielded], fun W hW => by go_simp⟩) trivial ?_
          try (simp only [Act.put, List.getElem_toArray, List.getElem_cons_succ, List.getElem_cons_zero, List.setIfInBounds_toArray, List.set_cons_zero, List.set_cons_succ])
          refine wpAnyH_ready (rs := [5]) (by kernel_rfl) (by simp) ?_
          refine (AllReadyH.cons (o := _) rfl (fun KK hKK => ?_) AllReadyH.nil)
          obtain ⟨W46, hr46, z46, kk46, hl46⟩ := mkZ (B := w5.heap.size) W45 M hMb (by have := K45.out.size; omega)
          refine step_make_run (by simp [Region.wanted, yielded]) _ _ _ (by rfl) _ _ (by rfl) (by rfl) hr46 ?_
          have Z8_46 := Lib.hid (Z8_45.out.on kk46)
          have Z11_46 := Lib.hid (Z11_45.out.on kk46)
          have Z2_46 := Lib.hid (Z2_45.out.on kk46)
          have Z5_46 := Lib.hid z46
          have K46 := Lib.hid (K45.out.then kk46)
          obtain ⟨g46, hg46⟩ : ∃ g, g = W45.heap.size := ⟨_, rfl⟩
          rw [← hg46] at Z5_46 ⊢
          have L46 : Hid (g45 < g46 ∧ g46 < W46.heap.size) := Lib.hid ⟨by have := L45.out; omega, by omega⟩
          clear hr46 z46 kk46 hl46 hg46
          refine hKK.out _ _ trivial (fun _ => ?_)
          clear hKK KK
          try (simp only [Act.put, List.getElem_toArray, List.getElem_cons_succ, List.getElem_cons_zero, List.setIfInBounds_toArray, List.set_cons_zero, List.set_cons_succ])
          refine wpAnyH_take (i := 13) (v := .slice (some ⟨g46, 0, none⟩) M M) rfl (by kernel_rfl) (by kernel_rfl) (by kernel_rfl) (fun _ _ _ h => h) (Or.inl ⟨by simp [Region.wanted, yielded], fun W hW => by go_simp⟩) trivial ?_
          try (simp only [Act.put, List.getElem_toArray, List.getElem_cons_succ, List.getElem_cons_zero, List.setIfInBounds_toArray, List.set_cons_zero, List.set_cons_succ])
          refine wpAnyH_take (i := 14) (v := .slice (some ⟨g33, 0, none⟩) M M) rfl (by kernel_rfl) (by kernel_rfl) (by kernel_rfl) (fun _ _ _ h => h) (Or.inl ⟨by simp [Region.wanted, yielded], fun W hW => by go_simp⟩) trivial ?_
          try (simp only [Act.put, List.getElem_toArray, List.getElem_cons_succ, List.getElem_cons_zero, List.setIfInBounds_toArray, List.set_cons_zero, List.set_cons_succ])
          refine wpAnyH_take (i := 15) (v := .slice (some ⟨g44, 0, none⟩) M M) rfl (by kernel_rfl) (by kernel_rfl) (by kernel_rfl) (fun _ _ _ h => h) (Or.inl ⟨by simp [Region.wanted, yielded], fun W hW => by go_simp⟩) trivial ?_
          try (simp only [Act.put, List.getElem_toArray, List.getElem_cons_succ, List.getElem_cons_zero, List.setIfInBounds_toArray, List.set_cons_zero, List.set_cons_succ])
          refine wpAnyH_done (by kernel_rfl) ?_ _
          go_wp2_with fail
          go_meet
          exact ⟨g45, g46, g33, g44, rfl, rfl, rfl, rfl, Lib.hid ⟨Z2_46.out, Z5_46.out, Z8_46.out, Z11_46.out, by have := L33.out; have := L44.out; have := L45.out; have := L46.out; omega, K46.out⟩⟩
        · obtain ⟨W47, hr47, z47, kk47, hl47⟩ := mkZ (B := w5.heap.size) W44 M hMb (by have := K44.out.size; omega)
          refine step_make_run (by simp [Region.wanted, yielded]) _ _ _ (by rfl) _ _ (by rfl) (by rfl) hr47 ?_
          have Z8_47 := Lib.hid (Z8_44.out.on kk47)
          have Z11_47 := Lib.hid (Z11_44.out.on kk47)
          have Z5_47 := Lib.hid z47
          have K47 := Lib.hid (K44.out.then kk47)
          obtain ⟨g47, hg47⟩ : ∃ g, g = W44.heap.size := ⟨_, rfl⟩
          rw [← hg47] at Z5_47 ⊢
          have L47 : Hid (g44 < g47 ∧ g47 < W47.heap.size) := Lib.hid ⟨by have := L44.out; omega, by omega⟩
          clear hr47 z47 kk47 hl47 hg47
          refine hKK.out _ _ trivial (fun _ => ?_)
          clear hKK KK
          try (simp only [Act.put, List.getElem_toArray, List.getElem_cons_succ, List.getElem_cons_zero, List.setIfInBounds_toArray, List.set_cons_zero, List.set_cons_succ])
          refine wpAnyH_ready (rs := [2]) (by kernel_rfl) (by simp) ?_
          refine (AllReadyH.cons (o := _) rfl (fun KK hKK => ?_) AllReadyH.nil)
          obtain ⟨W48, hr48, z48, kk48, hl48⟩ := mkZ (B := w5.heap.size) W47 M hMb (by have := K47.out.size; omega)
          refine step_make_run (by simp [Region.wanted, yielded]) _ _ _ (by rfl) _ _ (by rfl) (by rfl) hr48 ?_
          have Z8_48 := Lib.hid (Z8_47.out.on kk48)
          have Z11_48 := Lib.hid (Z11_47.out.on kk48)
          have Z5_48 := Lib.hid (Z5_47.out.on kk48)
          have Z2_48 := Lib.hid z48
          have K48 := Lib.hid (K47.out.then kk48)
          obtain ⟨g48, hg48⟩ : ∃ g, g = W47.heap.size := ⟨_, rfl⟩
          rw [← hg48] at Z2_48 ⊢
          have L48 : Hid (g47 < g48 ∧ g48 < W48.heap.size) := Lib.hid ⟨by have := L47.out; omega, by omega⟩
          clear hr48 z48 kk48 hl48 hg48
          refine hKK.out _ _ trivial (fun _ => ?_)
          clear hKK KK
          try (simp only [Act.put, List.getElem_toArray, List.getElem_cons_succ, List.getElem_cons_zero, List.setIfInBounds_toArray, List.set_cons_zero, List.set_cons_succ])
          refine wpAnyH_take (i := 12) (v := .slice (some ⟨g48, 0, none⟩) M M) rfl (by kernel_rfl) (by kernel_rfl) (by kernel_rfl) (fun _ _ _ h => h) (Or.inl ⟨by simp [Region.wanted, yielded], fun W hW => by go_simp⟩) trivial ?_
          try (simp only [Act.put, List.getElem_toArray, List.getElem_cons_succ, List.getElem_cons_zero, List.setIfInBounds_toArray, List.set_cons_zero, List.set_cons_succ])
          refine wpAnyH_take (i := 13) (v := .slice (some ⟨g47, 0, none⟩) M M) rfl (by kernel_rfl) (by kernel_rfl) (by kernel_rfl) (fun _ _ _ h => h) (Or.inl ⟨by simp [Region.wanted, yielded], fun W hW => by go_simp⟩) trivial ?_
          try (simp only [Act.put, List.getElem_toArray, List.getElem_cons_succ, List.getElem_cons_zero, List.setIfInBounds_toArray, List.set_cons_zero, List.set_cons_succ])
          refine wpAnyH_take (i := 14) (v := .slice (some ⟨g33, 0, none⟩) M M) rfl (by kernel_rfl) (by kernel_rfl) (by kernel_rfl) (fun _ _ _ h => h) (Or.inl ⟨by simp [Region.wanted, yielded], fun W hW => by go_simp⟩) trivial ?_
          try (simp only [Act.put, List.getElem_toArray, List.getElem_cons_succ, List.getElem_cons_zero, List.setIfInBounds_toArray, List.set_cons_zero, List.set_cons_succ])
          refine wpAnyH_take (i := 15) (v := .slice (some ⟨g44, 0, none⟩) M M) rfl (by kernel_rfl) (by kernel_rfl) (by kernel_rfl) (fun _ _ _ h => h) (Or.inl ⟨by simp [Region.wanted, yielded], fun W hW => by go_simp⟩) trivial ?_
          try (simp only [Act.put, List.getElem_toArray, List.getElem_cons_succ, List.getElem_cons_zero, List.setIfInBounds_toArray, List.set_cons_zero, List.set_cons_succ])
          refine wpAnyH_done (by kernel_rfl) ?_ _
          go_wp2_with fail
          go_meet
          exact ⟨g48, g47, g33, g44, rfl, rfl, rfl, rfl, Lib.hid ⟨Z2_48.out, Z5_48.out, Z8_48.out, Z11_48.out, by have := L33.out; have := L44.out; have := L47.out; have := L48.out; omega, K48.out⟩⟩
    · obtain ⟨W49, hr49, z49, kk49, hl49⟩ := mkZ (B := w5.heap.size) Wd M hMb (by have := KD.out.size; omega)
      refine step_make_run (by simp [Region.wanted, yielded]) _ _ _ (by rfl) _ _ (by rfl) (by rfl) hr49 ?_
      have Z11_49 := Lib.hid z49
      have K49 := Lib.hid (KD.out.then kk49)
      obtain ⟨g49, hg49⟩ : ∃ g, g = Wd.heap.size := ⟨_, rfl⟩
      rw [← hg49] at Z11_49 ⊢
      have L49 : Hid (w5.heap.size ≤ g49 ∧ g49 < W49.heap.size) := Lib.hid ⟨by have := KD.out.size; omega, by omega⟩
      clear hr49 z49 kk49 hl49 hg49
      refine hKK.out _ _ trivial (fun _ => ?_)
      clear hKK KK
      try (simp only [Act.put, List.getElem_toArray, List.getElem_cons_succ, List.getElem_cons_zero, List.setIfInBounds_toArray, List.set_cons_zero, List.set_cons_succ])
      refine wpAnyH_ready (rs := [2, 5, 8]) (by kernel_rfl) (by simp) ?_
      refine (AllReadyH.cons (o := _) rfl (fun KK hKK => ?_) (AllReadyH.cons (o := _) rfl (fun KK hKK => ?_) (AllReadyH.cons (o := _) rfl (fun KK hKK => ?_) AllReadyH.nil)))
      · obtain ⟨W50, hr50, z50, kk50, hl50⟩ := mkZ (B := w5.heap.size) W49 M hMb (by have := K49.out.size; omega)
        refine step_make_run (by simp [Region.wanted, yielded]) _ _ _ (by rfl) _ _ (by rfl) (by rfl) hr50 ?_
        have Z11_50 := Lib.hid (Z11_49.out.on kk50)
        have Z2_50 := Lib.hid z50
        have K50 := Lib.hid (K49.out.then kk50)
        obtain ⟨g50, hg50⟩ : ∃ g, g = W49.heap.size := ⟨_, rfl⟩
        rw [← hg50] at Z2_50 ⊢
        have L50 : Hid (g49 < g50 ∧ g50 < W50.heap.size) := Lib.hid ⟨by have := L49.out; omega, by omega⟩
        clear hr50 z50 kk50 hl50 hg50
        refine hKK.out _ _ trivial (fun _ => ?_)
        clear hKK KK
        try (simp only [Act.put, List.getElem_toArray, List.getElem_cons_succ, List.getElem_cons_zero, List.setIfInBounds_toArray, List.set_cons_zero, List.set_cons_succ])
        refine wpAnyH_take (i := 12) (v := .slice (some ⟨g50, 0, none⟩) M M) rfl (by kernel_rfl) (by kernel_rfl) (by kernel_rfl) (fun _ _ _ h => h) (Or.inl ⟨by simp [Region.wanted, yielded], fun W hW => by go_simp⟩) trivial ?_
        try (simp only [Act.put, List.getElem_toArray, List.getElem_cons_succ, List.getElem_cons_zero, List.setIfInBounds_toArray, List.set_cons_zero, List.set_cons_succ])
        refine wpAnyH_ready (rs := [5, 8]) (by kernel_rfl) (by simp) ?_
        refine (AllReadyH.cons (o := _) rfl (fun KK hKK => ?_) (AllReadyH.cons (o := _) rfl (fun KK hKK => ?_) AllReadyH.nil))
        · obtain ⟨W51, hr51, z51, kk51, hl51⟩ := mkZ (B := w5.heap.size) W50 M hMb (by have := K50.out.size; omega)
          refine step_make_run (by simp [Region.wanted, yielded]) _ _ _ (by rfl) _ _ (by rfl) (by rfl) hr51 ?_
          have Z11_51 := Lib.hid (Z11_50.out.on kk51)
          have Z2_51 := Lib.hid (Z2_50.out.on kk51)
          have Z5_51 := Lib.hid z51
          have K51 := Lib.hid (K50.out.then kk51)
          obtain ⟨g51, hg51⟩ : ∃ g, g = W50.heap.size := ⟨_, rfl⟩
          rw [← hg51] at Z5_51 ⊢
          have L51 : Hid (g50 < g51 ∧ g51 < W51.heap.size) := Lib.hid ⟨by have := L50.out; omega, by omega⟩
          clear hr51 z51 kk51 hl51 hg51
          refine hKK.out _ _ trivial (fun _ => ?_)
          clear hKK KK
          try (simp only [Act.put, List.getElem_toArray, List.getElem_cons_succ, List.getElem_cons_zero, List.setIfInBounds_toArray, List.set_cons_zero, List.set_cons_succ])
          refine wpAnyH_take (i := 13) (v := .slice (some ⟨g51, 0, none⟩) M M) rfl (by kernel_rfl) (by kernel_rfl) (by kernel_rfl) (fun _ _ _ h => h) (Or.inl ⟨by simp [Region.wanted, yielded], fun W hW => by go_simp⟩) trivial ?_
          try (simp only [Act.put, List.getElem_toArray, List.getElem_cons_succ, List.getElem_cons_zero, List.setIfInBounds_toArray, List.set_cons_zero, List.set_cons_succ])
          refine wpAnyH_ready (rs := [8]) (by kernel_rfl) (by simp) ?_
          refine (AllReadyH.cons (o := _) rfl (fun KK hKK => ?_) AllReadyH.nil)
          obtain ⟨W52, hr52, z52, kk52, hl52⟩ := mkZ (B := w5.heap.size) W51 M hMb (by have := K51.out.size; omega)
          refine step_make_run (by simp [Region.wanted, yielded]) _ _ _ (by rfl) _ _ (by rfl) (by rfl) hr52 ?_
          have Z11_52 := Lib.hid (Z11_51.out.on kk52)
          have Z2_52 := Lib.hid (Z2_51.out.on kk52)
          have Z5_52 := Lib.hid (Z5_51.out.on kk52)
          have Z8_52 := Lib.hid z52
          have K52 := Lib.hid (K51.out.then kk52)
          obtain ⟨g52, hg52⟩ : ∃ g, g = W51.heap.size := ⟨_, rfl⟩
          rw [← hg52] at Z8_52 ⊢
          have L52 : Hid (g51 < g52 ∧ g52 < W52.heap.size) := Lib.hid ⟨by have := L51.out; omega, by omega⟩
          clear hr52 z52 kk52 hl52 hg52
          refine hKK.out _ _ trivial (fun _ => ?_)
          clear hKK KK
          try (simp only [Act.put, List.getElem_toArray, List.getElem_cons_succ, List.getElem_cons_zero, List.setIfInBounds_toArray, List.set_cons_zero, List.set_cons_succ])
          refine wpAnyH_take (i := 14) (v := .slice (some ⟨g52, 0, none⟩) M M) rfl (by kernel_rfl) (by kernel_rfl) (by kernel_rfl) (fun _ _ _ h => h) (Or.inl ⟨by simp [Region.wanted, yielded], fun W hW => by go_simp⟩) trivial ?_
          try (simp only [Act.put, List.getElem_toArray, List.getElem_cons_succ, List.getElem_cons_zero, List.setIfInBounds_toArray, List.set_cons_zero, List.set_cons_succ])
          refine wpAnyH_take (i := 15) (v := .slice (some ⟨g49, 0, none⟩) M M) rfl (by kernel_rfl) (by kernel_rfl) (by kernel_rfl) (fun _ _ _ h => h) (Or.inl ⟨by simp [Region.wanted, yielded], fun W hW => by go_simp⟩) trivial ?_
          try (simp only [Act.put, List.getElem_toArray, List.getElem_cons_succ, List.getElem_cons_zero, List.setIfInBounds_toArray, List.set_cons_zero, List.set_cons_succ])
          refine wpAnyH_done (by kernel_rfl) ?_ _
          go_wp2_with fail
          go_meet
          exact ⟨g50, g51, g52, g49, rfl, rfl, rfl, rfl, Lib.hid ⟨Z2_52.out, Z5_52.out, Z8_52.out, Z11_52.out, by have := L49.out; have := L50.out; have := L51.out; have := L52.out; omega, K52.out⟩⟩
        · obtain ⟨W53, hr53, z53, kk53, hl53⟩ := mkZ (B := w5.heap.size) W50 M hMb (by have := K50.out.size; omega)
          refine step_make_run (by simp [Region.wanted, yielded]) _ _ _ (by rfl) _ _ (by rfl) (by rfl) hr53 ?_
          have Z11_53 := Lib.hid (Z11_50.out.on kk53)
          have Z2_53 := Lib.hid (Z2_50.out.on kk53)
          have Z8_53 := Lib.hid z53
          have K53 := Lib.hid (K50.out.then kk53)
          obtain ⟨g53, hg53⟩ : ∃ g, g = W50.heap.size := ⟨_, rfl⟩
          rw [← hg53] at Z8_53 ⊢
          have L53 : Hid (g50 < g53 ∧ g53 < W53.heap.size) := Lib.hid ⟨by have := L50.out; omega, by omega⟩
          clear hr53 z53 kk53 hl53 hg53
          refine hKK.out _ _ trivial (fun _ => ?_)
          clear hKK KK
          try (simp only [Act.put, List.getElem_toArray, List.getElem_cons_succ, List.getElem_cons_zero, List.setIfInBounds_toArray, List.set_cons_zero, List.set_cons_succ])
          refine wpAnyH_ready (rs := [5]) (by kernel_rfl) (by simp) ?_
          refine (AllReadyH.cons (o := _) rfl (fun KK hKK => ?_) AllReadyH.nil)
          obtain ⟨W54, hr54, z54, kk54, hl54⟩ := mkZ (B := w5.heap.size) W53 M hMb (by have := K53.out.size; omega)
          refine step_make_run (by simp [Region.wanted, yielded]) _ _ _ (by rfl) _ _ (by rfl) (by rfl) hr54 ?_
          have Z11_54 := Lib.hid (Z11_53.out.on kk54)
          have Z2_54 := Lib.hid (Z2_53.out.on kk54)
          have Z8_54 := Lib.hid (Z8_53.out.on kk54)
          have Z5_54 := Lib.hid z54
          have K54 := Lib.hid (K53.out.then kk54)
          obtain ⟨g54, hg54⟩ : ∃ g, g = W53.heap.size := ⟨_, rfl⟩
          rw [← hg54] at Z5_54 ⊢
          have L54 : Hid (g53 < g54 ∧ g54 < W54.heap.size) := Lib.hid ⟨by have := L53.out; omega, by omega⟩
          clear hr54 z54 kk54 hl54 hg54
          refine hKK.out _ _ trivial (fun _ => ?_)
          clear hKK KK
          try (simp only [Act.put, List.getElem_toArray, List.getElem_cons_succ, List.getElem_cons_zero, List.setIfInBounds_toArray, List.set_cons_zero, List.set_cons_succ])
          refine wpAnyH_take (i := 13) (v := .slice (some ⟨g54, 0, none⟩) M M) rfl (by kernel_rfl) (by kernel_rfl) (by kernel_rfl) (fun _ _ _ h => h) (Or.inl ⟨by simp [Region.wanted, yielded], fun W hW => by go_simp⟩) trivial ?_
          try (simp only [Act.put, List.getElem_toArray, List.getElem_cons_succ, List.getElem_cons_zero, List.setIfInBounds_toArray, List.set_cons_zero, List.set_cons_succ])
          refine wpAnyH_take (i := 14) (v := .slice (some ⟨g53, 0, none⟩) M M) rfl (by kernel_rfl) (by kernel_rfl) (by kernel_rfl) (fun _ _ _ h => h) (Or.inl ⟨by simp [Region.wanted, yielded], fun W hW => by go_simp⟩) trivial ?_
          try (simp only [Act.put, List.getElem_toArray, List.getElem_cons_succ, List.getElem_cons_zero, List.setIfInBounds_toArray, List.set_cons_zero, List.set_cons_succ])
          refine wpAnyH_take (i := 15) (v := .slice (some ⟨g49, 0, none⟩) M M) rfl (by kernel_rfl) (by kernel_rfl) (by kernel_rfl) (fun _ _ _ h => h) (Or.inl ⟨by simp [Region.wanted, yielded], fun W hW => by go_simp⟩) trivial ?_
          try (simp only [Act.put, List.getElem_toArray, List.getElem_cons_succ, List.getElem_cons_zero, List.setIfInBounds_toArray, List.set_cons_zero, List.set_cons_succ])
          refine wpAnyH_done (by kernel_rfl) ?_ _
          go_wp2_with fail
          go_meet
          exact ⟨g50, g54, g53, g49, rfl, rfl, rfl, rfl, Lib.hid ⟨Z2_54.out, Z5_54.out, Z8_54.out, Z11_54.out, by have := L49.out; have := L50.out; have := L53.out; have := L54.out; omega, K54.out⟩⟩
      · obtain ⟨W55, hr55, z55, kk55, hl55⟩ := mkZ (B := w5.heap.size) W49 M hMb (by have := K49.out.size; omega)
        refine step_make_run (by simp [Region.wanted, yielded]) _ _ _ (by rfl) _ _ (by rfl) (by rfl) hr55 ?_
        have Z11_55 := Lib.hid (Z11_49.out.on kk55)
        have Z5_55 := Lib.hid z55
        have K55 := Lib.hid (K49.out.then kk55)
        obtain ⟨g55, hg55⟩ : ∃ g, g = W49.heap.size := ⟨_, rfl⟩
        rw [← hg55] at Z5_55 ⊢
        have L55 : Hid (g49 < g55 ∧ g55 < W55.heap.size) := Lib.hid ⟨by have := L49.out; omega, by omega⟩
        clear hr55 z55 kk55 hl55 hg55
        refine hKK.out _ _ trivial (fun _ => ?_)
        clear hKK KK
        try (simp only [Act.put, List.getElem_toArray, List.getElem_cons_succ, List.getElem_cons_zero, List.setIfInBounds_toArray, List.set_cons_zero, List.set_cons_succ])
        refine wpAnyH_ready (rs := [2, 8]) (by kernel_rfl) (by simp) ?_
        refine (AllReadyH.cons (o := _) rfl (fun KK hKK => ?_) (AllReadyH.cons (o := _) rfl (fun KK hKK => ?_) AllReadyH.nil))
        · obtain ⟨W56, hr56, z56, kk56, hl56⟩ := mkZ (B := w5.heap.size) W55 M hMb (by have := K55.out.size; omega)
          refine step_make_run (by simp [Region.wanted, yielded]) _ _ _ (by rfl) _ _ (by rfl) (by rfl) hr56 ?_
          have Z11_56 := Lib.hid (Z11_55.out.on kk56)
          have Z5_56 := Lib.hid (Z5_55.out.on kk56)
          have Z2_56 := Lib.hid z56
          have K56 := Lib.hid (K55.out.then kk56)
          obtain ⟨g56, hg56⟩ : ∃ g, g = W55.heap.size := ⟨_, rfl⟩
          rw [← hg56] at Z2_56 ⊢
          have L56 : Hid (g55 < g56 ∧ g56 < W56.heap.size) := Lib.hid ⟨by have := L55.out; omega, by omega⟩
          clear hr56 z56 kk56 hl56 hg56
          refine hKK.out _ _ trivial (fun _ => ?_)
          clear hKK KK
          try (simp only [Act.put, List.getElem_toArray, List.getElem_cons_succ, List.getElem_cons_zero, List.setIfInBounds_toArray, List.set_cons_zero, List.set_cons_succ])
          refine wpAnyH_take (i := 12) (v := .slice (some ⟨g56, 0, none⟩) M M) rfl (by kernel_rfl) (by kernel_rfl) (by kernel_rfl) (fun _ _ _ h => h) (Or.inl ⟨by simp [Region.wanted, yielded], fun W hW => by go_simp⟩) trivial ?_
          try (simp only [Act.put, List.getElem_toArray, List.getElem_cons_succ, List.getElem_cons_zero, List.setIfInBounds_toArray, List.set_cons_zero, List.set_cons_succ])
          refine wpAnyH_take (i := 13) (v := .slice (some ⟨g55, 0, none⟩) M M) rfl (by kernel_rfl) (by kernel_rfl) (by kernel_rfl) (fun _ _ _ h => h) (Or.inl ⟨by simp [Region.wanted, yielded], fun W hW => by go_simp⟩) trivial ?_
          try (simp only [Act.put, List.getElem_toArray, List.getElem_cons_succ, List.getElem_cons_zero, List.setIfInBounds_toArray, List.set_cons_zero, List.set_cons_succ])
          refine wpAnyH_ready (rs := [8]) (by kernel_rfl) (by simp) ?_
          refine (AllReadyH.cons (o := _) rfl (fun KK hKK => ?_) AllReadyH.nil)
          obtain ⟨W57, hr57, z57, kk57, hl57⟩ := mkZ (B := w5.heap.size) W56 M hMb (by have := K56.out.size; omega)
          refine step_make_run (by simp [Region.wanted, yielded]) _ _ _ (by rfl) _ _ (by rfl) (by rfl) hr57 ?_
          have Z11_57 := Lib.hid (Z11_56.out.on kk57)
          have Z5_57 := Lib.hid (Z5_56.out.on kk57)
          have Z2_57 := Lib.hid (Z2_56.out.on kk57)
          have Z8_57 := Lib.hid z57
          have K57 := Lib.hid (K56.out.then kk57)
          obtain ⟨g57, hg57⟩ : ∃ g, g = W56.heap.size := ⟨_, rfl⟩
          rw [← hg57] at Z8_57 ⊢
          have L57 : Hid (g56 < g57 ∧ g57 < W57.heap.size) := Lib.hid ⟨by have := L56.out; omega, by omega⟩
          clear hr57 z57 kk57 hl57 hg57
          refine hKK.out _ _ trivial (fun _ => ?_)
          clear hKK KK
          try (simp only [Act.put, List.getElem_toArray, List.getElem_cons_succ, List.getElem_cons_zero, List.setIfInBounds_toArray, List.set_cons_zero, List.set_cons_succ])
          refine wpAnyH_take (i := 14) (v := .slice (some ⟨g57, 0, none⟩) M M) rfl (by kernel_rfl) (by kernel_rfl) (by kernel_rfl) (fun _ _ _ h => h) (Or.inl ⟨by simp [Region.wanted, yielded], fun W hW => by go_simp⟩) trivial ?_
          try (simp only [Act.put, List.getElem_toArray, List.getElem_cons_succ, List.getElem_cons_zero, List.setIfInBounds_toArray, List.set_cons_zero, List.set_cons_succ])
          refine wpAnyH_take (i := 15) (v := .slice (some ⟨g49, 0, none⟩) M M) rfl (by kernel_rfl) (by kernel_rfl) (by kernel_rfl) (fun _ _ _ h => h) (Or.inl ⟨by simp [Region.wanted, yielded], fun W hW => by go_simp⟩) trivial ?_
          try (simp only [Act.put, List.getElem_toArray, List.getElem_cons_succ, List.getElem_cons_zero, List.setIfInBounds_toArray, List.set_cons_zero, List.set_cons_succ])
          refine wpAnyH_done (by kernel_rfl) ?_ _
          go_wp2_with fail
          go_meet
          exact ⟨g56, g55, g57, g49, rfl, rfl, rfl, rfl, Lib.hid ⟨Z2_57.out, Z5_57.out, Z8_57.out, Z11_57.out, by have := L49.out; have := L55.out; have := L56.out; have := L57.out; omega, K57.out⟩⟩
        · obtain ⟨W58, hr58, z58, kk58, hl58⟩ := mkZ (B := w5.heap.size) W55 M hMb (by have := K55.out.size; omega)
          refine step_make_run (by simp [Region.wanted, yielded]) _ _ _ (by rfl) _ _ (by rfl) (by rfl) hr58 ?_
          have Z11_58 := Lib.hid (Z11_55.out.on kk58)
          have Z5_58 := Lib.hid (Z5_55.out.on kk58)
          have Z8_58 := Lib.hid z58
          have K58 := Lib.hid (K55.out.then kk58)
          obtain ⟨g58, hg58⟩ : ∃ g, g = W55.heap.size := ⟨_, rfl⟩
          rw [← hg58] at Z8_58 ⊢
          have L58 : Hid (g55 < g58 ∧ g58 < W58.heap.size) := Lib.hid ⟨by have := L55.out; omega, by omega⟩
          clear hr58 z58 kk58 hl58 hg58
          refine hKK.out _ _ trivial (fun _ => ?_)
          clear hKK KK
          try (simp only [Act.put, List.getElem_toArray, List.getElem_cons_succ, List.getElem_cons_zero, List.setIfInBounds_toArray, List.set_cons_zero, List.set_cons_succ])
          refine wpAnyH_ready (rs := [2]) (by kernel_rfl) (by simp) ?_
          refine (AllReadyH.cons (o := _) rfl (fun KK hKK => ?_) AllReadyH.nil)
          obtain ⟨W59, hr59, z59, kk59, hl59⟩ := mkZ (B := w5.heap.size) W58 M hMb (by have := K58.out.size; omega)
          refine step_make_run (by simp [Region.wanted, yielded]) _ _ _ (by rfl) _ _ (by rfl) (by rfl) hr59 ?_
          have Z11_59 := Lib.hid (Z11_58.out.on kk59)
          have Z5_59 := Lib.hid (Z5_58.out.on kk59)
          have Z8_59 := Lib.hid (Z8_58.out.on kk59)
          have Z2_59 := Lib.hid z59
          have K59 := Lib.hid (K58.out.then kk59)
          obtain ⟨g59, hg59⟩ : ∃ g, g = W58.heap.size := ⟨_, rfl⟩
          rw [← hg59] at Z2_59 ⊢
          have L59 : Hid (g58 < g59 ∧ g59 < W59.heap.size) := Lib.hid ⟨by have := L58.out; omega, by omega⟩
          clear hr59 z59 kk59 hl59 hg59
          refine hKK.out _ _ trivial (fun _ => ?_)
          clear hKK KK
          try (simp only [Act.put, List.getElem_toArray, List.getElem_cons_succ, List.getElem_cons_zero, List.setIfInBounds_toArray, List.set_cons_zero, List.set_cons_succ])
          refine wpAnyH_take (i := 12) (v := .slice (some ⟨g59, 0, none⟩) M M) rfl (by kernel_rfl) (by kernel_rfl) (by kernel_rfl) (fun _ _ _ h => h) (Or.inl ⟨by simp [Region.wanted, yielded], fun W hW => by go_simp⟩) trivial ?_
          try (simp only [Act.put, List.getElem_toArray, List.getElem_cons_succ, List.getElem_cons_zero, List.setIfInBounds_toArray, List.set_cons_zero, List.set_cons_succ])
          refine wpAnyH_take (i := 13) (v := .slice (some ⟨g55, 0, none⟩) M M) rfl (by kernel_rfl) (by kernel_rfl) (by kernel_rfl) (fun _ _ _ h => h) (Or.inl ⟨by simp [Region.wanted, yielded], fun W hW => by go_simp⟩) trivial ?_
          try (simp only [Act.put, List.getElem_toArray, List.getElem_cons_succ, List.getElem_cons_zero, List.setIfInBounds_toArray, List.set_cons_zero, List.set_cons_succ])
          refine wpAnyH_take (i := 14) (v := .slice (some ⟨g58, 0, none⟩) M M) rfl (by kernel_rfl) (by kernel_rfl) (by kernel_rfl) (fun _ _ _ h => h) (Or.inl ⟨by simp [Region.wanted, yielded], fun W hW => by go_simp⟩) trivial ?_
          try (simp only [Act.put, List.getElem_toArray, List.getElem_cons_succ, List.getElem_cons_zero, List.setIfInBounds_toArray, List.set_cons_zero, List.set_cons_succ])
          refine wpAnyH_take (i := 15) (v := .slice (some ⟨g49, 0, none⟩) M M) rfl (by kernel_rfl) (by kernel_rfl) (by kernel_rfl) (fun _ _ _ h => h) (Or.inl ⟨by simp [Region.wanted, yielded], fun W hW => by go_simp⟩) trivial ?_
          try (simp only [Act.put, List.getElem_toArray, List.getElem_cons_succ, List.getElem_cons_zero, List.setIfInBounds_toArray, List.set_cons_zero, List.set_cons_succ])
          refine wpAnyH_done (by kernel_rfl) ?_ _
          go_wp2_with fail
          go_meet
          exact ⟨g59, g55, g58, g49, rfl, rfl, rfl, rfl, Lib.hid ⟨Z2_59.out, Z5_59.out, Z8_59.out, Z11_59.out, by have := L49.out; have := L55.out; have := L58.out; have := L59.out; omega, K59.out⟩⟩
      · obtain ⟨W60, hr60, z60, kk60, hl60⟩ := mkZ (B := w5.heap.size) W49 M hMb (by have := K49.out.size; omega)
        refine step_make_run (by simp [Region.wanted, yielded]) _ _ _ (by rfl) _ _ (by rfl) (by rfl) hr60 ?_
        have Z11_60 := Lib.hid (Z11_49.out.on kk60)
        have Z8_60 := Lib.hid z60
        have K60 := Lib.hid (K49.out.then kk60)
        obtain ⟨g60, hg60⟩ : ∃ g, g = W49.heap.size := ⟨_, rfl⟩
        rw [← hg60] at Z8_60 ⊢
        have L60 : Hid (g49 < g60 ∧ g60 < W60.heap.size) := Lib.hid ⟨by have := L49.out; omega, by omega⟩
        clear hr60 z60 kk60 hl60 hg60
        refine hKK.out _ _ trivial (fun _ => ?_)
        clear hKK KK
        try (simp only [Act.put, List.getElem_toArray, List.getElem_cons_succ, List.getElem_cons_zero, List.setIfInBounds_toArray, List.set_cons_zero, List.set_cons_succ])
        refine wpAnyH_ready (rs := [2, 5]) (by kernel_rfl) (by simp) ?_
        refine (AllReadyH.cons (o := _) rfl (fun KK hKK => ?_) (AllReadyH.cons (o := _) rfl (fun KK hKK => ?_) AllReadyH.nil))
        · obtain ⟨W61, hr61, z61, kk61, hl61⟩ := mkZ (B := w5.heap.size) W60 M hMb (by have := K60.out.size; omega)
          refine step_make_run (by simp [Region.wanted, yielded]) _ _ _ (by rfl) _ _ (by rfl) (by rfl) hr61 ?_
          have Z11_61 := Lib.hid (Z11_60.out.on kk61)
          have Z8_61 := Lib.hid (Z8_60.out.on kk61)
          have Z2_61 := Lib.hid z61
          have K61 := Lib.hid (K60.out.then kk61)
          obtain ⟨g61, hg61⟩ : ∃ g, g = W60.heap.size := ⟨_, rfl⟩
          rw [← hg61] at Z2_61 ⊢
          have L61 : Hid (g60 < g61 ∧ g61 < W61.heap.size) := Lib.hid ⟨by have := L60.out; omega, by omega⟩
          clear hr61 z61 kk61 hl61 hg61
          refine hKK.out _ _ trivial (fun _ => ?_)
          clear hKK KK
          try (simp only [Act.put, List.getElem_toArray, List.getElem_cons_succ, List.getElem_cons_zero, List.setIfInBounds_toArray, List.set_cons_zero, List.set_cons_succ])
          refine wpAnyH_take (i := 12) (v := .slice (some ⟨g61, 0, none⟩) M M) rfl (by kernel_rfl) (by kernel_rfl) (by kernel_rfl) (fun _ _ _ h => h) (Or.inl ⟨by simp [Region.wanted, yielded], fun W hW => by go_simp⟩) trivial ?_
          try (simp only [Act.put, List.getElem_toArray, List.getElem_cons_succ, List.getElem_cons_zero, List.setIfInBounds_toArray, List.set_cons_zero, List.set_cons_succ])
          refine wpAnyH_ready (rs := [5]) (by kernel_rfl) (by simp) ?_
          refine (AllReadyH.cons (o := _) rfl (fun KK hKK => ?_) AllReadyH.nil)
          obtain ⟨W62, hr62, z62, kk62, hl62⟩ := mkZ (B := w5.heap.size) W61 M hMb (by have := K61.out.size; omega)
          refine step_make_run (by simp [Region.wanted, yielded]) _ _ _ (by rfl) _ _ (by rfl) (by rfl) hr62 ?_
          have Z11_62 := Lib.hid (Z11_61.out.on kk62)
          have Z8_62 := Lib.hid (Z8_61.out.on kk62)
          have Z2_62 := Lib.hid (Z2_61.out.on kk62)
          have Z5_62 := Lib.hid z62
          have K62 := Lib.hid (K61.out.then kk62)
          obtain ⟨g62, hg62⟩ : ∃ g, g = W61.heap.size := ⟨_, rfl⟩
          rw [← hg62] at Z5_62 ⊢
          have L62 : Hid (g61 < g62 ∧ g62 < W62.heap.size) := Lib.hid ⟨by have := L61.out; omega, by omega⟩
          clear hr62 z62 kk62 hl62 hg62
          refine hKK.out _ _ trivial (fun _ => ?_)
          clear hKK KK
          try (simp only [Act.put, List.getElem_toArray, List.getElem_cons_succ, List.getElem_cons_zero, List.setIfInBounds_toArray, List.set_cons_zero, List.set_cons_succ])
          refine wpAnyH_take (i := 13) (v := .slice (some ⟨g62, 0, none⟩) M M) rfl (by kernel_rfl) (by kernel_rfl) (by kernel_rfl) (fun _ _ _ h => h) (Or.inl ⟨by simp [Region.wanted, yielded], fun W hW => by go_simp⟩) trivial ?_
          try (simp only [Act.put, List.getElem_toArray, List.getElem_cons_succ, List.getElem_cons_zero, List.setIfInBounds_toArray, List.set_cons_zero, List.set_cons_succ])
          refine wpAnyH_take (i := 14) (v := .slice (some ⟨g60, 0, none⟩) M M) rfl (by kernel_rfl) (by kernel_rfl) (by kernel_rfl) (fun _ _ _ h => h) (Or.inl ⟨by simp [Region.wanted, yielded], fun W hW => by go_simp⟩) trivial ?_
          try (simp only [Act.put, List.getElem_toArray, List.getElem_cons_succ, List.getElem_cons_zero, List.setIfInBounds_toArray, List.set_cons_zero, List.set_cons_succ])
          refine wpAnyH_take (i := 15) (v := .slice (some ⟨g49, 0, none⟩) M M) rfl (by kernel_rfl) (by kernel_rfl) (by kernel_rfl) (fun _ _ _ h => h) (Or.inl ⟨by simp [Region.wanted, yielded], fun W hW => by go_simp⟩) trivial ?_
          try (simp only [Act.put, List.getElem_toArray, List.getElem_cons_succ, List.getElem_cons_zero, List.setIfInBounds_toArray, List.set_cons_zero, List.set_cons_succ])
          refine wpAnyH_done (by kernel_rfl) ?_ _
          go_wp2_with fail
          go_meet
          exact ⟨g61, g62, g60, g49, rfl, rfl, rfl, rfl, Lib.hid ⟨Z2_62.out, Z5_62.out, Z8_62.out, Z11_62.out, by have := L49.out; have := L60.out; have := L61.out; have := L62.out; omega, K62.out⟩⟩
        · obtain ⟨W63, hr63, z63, kk63, hl63⟩ := mkZ (B := w5.heap.size) W60 M hMb (by have := K60.out.size; omega)
          refine step_make_run (by simp [Region.wanted, yielded]) _ _ _ (by rfl) _ _ (by rfl) (by rfl) hr63 ?_
          have Z11_63 := Lib.hid (Z11_60.out.on kk63)
          have Z8_63 := Lib.hid (Z8_60.out.on kk63)
          have Z5_63 := Lib.hid z63
          have K63 := Lib.hid (K60.out.then kk63)
          obtain ⟨g63, hg63⟩ : ∃ g, g = W60.heap.size := ⟨_, rfl⟩
          rw [← hg63] at Z5_63 ⊢
          have L63 : Hid (g60 < g63 ∧ g63 < W63.heap.size) := Lib.hid ⟨by have := L60.out; omega, by omega⟩
          clear hr63 z63 kk63 hl63 hg63
          refine hKK.out _ _ trivial (fun _ => ?_)
          clear hKK KK
          try (simp only [Act.put, List.getElem_toArray, List.getElem_cons_succ, List.getElem_cons_zero, List.setIfInBounds_toArray, List.set_cons_zero, List.set_cons_succ])
          refine wpAnyH_ready (rs := [2]) (by kernel_rfl) (by simp) ?_
          refine (AllReadyH.cons (o := _) rfl (fun KK hKK => ?_) AllReadyH.nil)
          obtain ⟨W64, hr64, z64, kk64, hl64⟩ := mkZ (B := w5.heap.size) W63 M hMb (by have := K63.out.size; omega)
          refine step_make_run (by simp [Region.wanted, yielded]) _ _ _ (by rfl) _ _ (by rfl) (by rfl) hr64 ?_
          have Z11_64 := Lib.hid (Z11_63.out.on kk64)
          have Z8_64 := Lib.hid (Z8_63.out.on kk64)
          have Z5_64 := Lib.hid (Z5_63.out.on kk64)
          have Z2_64 := Lib.hid z64
          have K64 := Lib.hid (K63.out.then kk64)
          obtain ⟨g64, hg64⟩ : ∃ g, g = W63.heap.size := ⟨_, rfl⟩
          rw [← hg64] at Z2_64 ⊢
          have L64 : Hid (g63 < g64 ∧ g64 < W64.heap.size) := Lib.hid ⟨by have := L63.out; omega, by omega⟩
          clear hr64 z64 kk64 hl64 hg64
          refine hKK.out _ _ trivial (fun _ => ?_)
          clear hKK KK
          try (simp only [Act.put, List.getElem_toArray, List.getElem_cons_succ, List.getElem_cons_zero, List.setIfInBounds_toArray, List.set_cons_zero, List.set_cons_succ])
          refine wpAnyH_take (i := 12) (v := .slice (some ⟨g64, 0, none⟩) M M) rfl (by kernel_rfl) (by kernel_rfl) (by kernel_rfl) (fun _ _ _ h => h) (Or.inl ⟨by simp [Region.wanted, yielded], fun W hW => by go_simp⟩) trivial ?_
          try (simp only [Act.put, List.getElem_toArray, List.getElem_cons_succ, List.getElem_cons_zero, List.setIfInBounds_toArray, List.set_cons_zero, List.set_cons_succ])
          refine wpAnyH_take (i := 13) (v := .slice (some ⟨g63, 0, none⟩) M M) rfl (by kernel_rfl) (by kernel_rfl) (by kernel_rfl) (fun _ _ _ h => h) (Or.inl ⟨by simp [Region.wanted, yielded], fun W hW => by go_simp⟩) trivial ?_
          try (simp only [Act.put, List.getElem_toArray, List.getElem_cons_succ, List.getElem_cons_zero, List.setIfInBounds_toArray, List.set_cons_zero, List.set_cons_succ])
          refine wpAnyH_take (i := 14) (v := .slice (some ⟨g60, 0, none⟩) M M) rfl (by kernel_rfl) (by kernel_rfl) (by kernel_rfl) (fun _ _ _ h => h) (Or.inl ⟨by simp [Region.wanted, yielded], fun W hW => by go_simp⟩) trivial ?_
          try (simp only [Act.put, List.getElem_toArray, List.getElem_cons_succ, List.getElem_cons_zero, List.setIfInBounds_toArray, List.set_cons_zero, List.set_cons_succ])
          refine wpAnyH_take (i := 15) (v := .slice (some ⟨g49, 0, none⟩) M M) rfl (by kernel_rfl) (by kernel_rfl) (by kernel_rfl) (fun _ _ _ h => h) (Or.inl ⟨by simp [Region.wanted, yielded], fun W hW => by go_simp⟩) trivial ?_
          try (simp only [Act.put, List.getElem_toArray, List.getElem_cons_succ, List.getElem_cons_zero, List.setIfInBounds_toArray, List.set_cons_zero, List.set_cons_succ])
          refine wpAnyH_done (by kernel_rfl) ?_ _
          go_wp2_with fail
          go_meet
          exact ⟨g64, g63, g60, g49, rfl, rfl, rfl, rfl, Lib.hid ⟨Z2_64.out, Z5_64.out, Z8_64.out, Z11_64.out, by have := L49.out; have := L60.out; have := L63.out; have := L64.out; omega, K64.out⟩⟩
  case rest =>
    obtain ⟨g1, g2, g3, g4, rfl, rfl, rfl, rfl, hZ⟩ := hcut
    obtain ⟨hz1, hz2, hz3, hz4, hne, hkz⟩ := hZ.out
    have HNE := Lib.hid hne
    have HI0 : Hid (AlgI w5 wc M g1 g2 g3 g4 f g 0) := Lib.hid ⟨zd_rowK hz1, zd_rowK hz2, zd_rowK hz3, zd_rowK hz4, hkz.mono (fun _ _ h => h.elim)⟩
    have HBG : Hid (w5.heap.size ≤ g1 ∧ w5.heap.size ≤ g2 ∧ w5.heap.size ≤ g3 ∧ w5.heap.size ≤ g4) := Lib.hid (by
      obtain ⟨a1, q1⟩ := HI0.out.r1; obtain ⟨a2, q2⟩ := HI0.out.r2; obtain ⟨a3, q3⟩ := HI0.out.r3; obtain ⟨a4, q4⟩ := HI0.out.r4
      exact ⟨(q1.row.lt g1 rfl).1, (q2.row.lt g2 rfl).1, (q3.row.lt g3 rfl).1, (q4.row.lt g4 rfl).1⟩)
    have HKF : Hid (∀ wr, Kept (fun q => q = g1 ∨ q = g2 ∨ q = g3 ∨ q = g4) w5 wr → Kept (fun _ => False) w5 wr) := Lib.hid fun wr h => h.mono (fun i hi e => by obtain ⟨p1, p2, p3, p4⟩ := HBG.out; omega)
    clear hz1 hz2 hz3 hz4 hne hkz hZ
    have HF5 := Lib.hid (HF.out w5 HJ5.out); have HG5 := Lib.hid (HG.out w5 HA4.out)
    go_wp2_with fail
    go_loopw [15, 50] (fun _ iv wr => ∃ k : Nat, k ≤ M ∧ iv = .int .i64 (k : Int) ∧ Hid (AlgI w5 wr M g1 g2 g3 g4 f g k)) (fun _ iv _ => M - (intOf iv).toNat)
    case atStart => exact ⟨0, Nat.zero_le _, rfl, HI0⟩
    case round =>
      obtain ⟨k, hk, rfl, hI⟩ := hrel
      by_cases hlt : k < M
      · have l1 : (k : Int) < (M : Int) := by omega
        have l0' : (0 : Int) ≤ (k : Int) := by omega
        obtain ⟨x1, o1, rfl, hx1, ha1⟩ := HF5.out.at (k := k) (by rw [HFL.out]; exact hlt)
        obtain ⟨x2, o2, rfl, hx2, ha2⟩ := HG5.out.at (k := k) (by rw [HGL.out]; exact hlt)
        change AtG EB w5 x1 (o1 + k * 1) (f.getD k false) at ha1
        change AtG EB w5 x2 (o2 + k * 1) (g.getD k false) at ha2
        rw [Nat.mul_one] at ha1 ha2
        obtain ⟨b1, hb1⟩ : ∃ b, b = f.getD k false := ⟨_, rfl⟩
        obtain ⟨b2, hb2⟩ : ∃ b, b = g.getD k false := ⟨_, rfl⟩
        rw [← hb1] at ha1
        rw [← hb2] at ha2
        have c1 := atEB ha1; have c2 := atEB ha2
        have HX1 := Lib.hid hb1; have HX2 := Lib.hid hb2
        have HPK : Hid (∀ W, Kept (fun q => q = g1 ∨ q = g2 ∨ q = g3 ∨ q = g4) w5 W → W.cell? ⟨x1, o1 + k, none⟩ = some (.bool b1) ∧ W.cell? ⟨x2, o2 + k, none⟩ = some (.bool b2)) := Lib.hid fun W kk => by
          obtain ⟨p1, p2, p3, p4⟩ := HBG.out
          exact ⟨(kk.cell (p := ⟨x1, o1 + k, none⟩) hx1 (by show ¬ (x1 = g1 ∨ x1 = g2 ∨ x1 = g3 ∨ x1 = g4); omega)).trans c1, (kk.cell (p := ⟨x2, o2 + k, none⟩) hx2 (by show ¬ (x2 = g1 ∨ x2 = g2 ∨ x2 = g3 ∨ x2 = g4); omega)).trans c2⟩
        have HID : Hid (AlgI w5 wr.drew M g1 g2 g3 g4 f g k) := Lib.hid (by
          obtain ⟨⟨a1, q1⟩, ⟨a2, q2⟩, ⟨a3, q3⟩, ⟨a4, q4⟩, qk⟩ := hI.out
          have kd := (Kept.refl (fun _ => False) wr).drew
          exact ⟨⟨a1, q1.on kd (fun h => h)⟩, ⟨a2, q2.on kd (fun h => h)⟩, ⟨a3, q3.on kd (fun h => h)⟩, ⟨a4, q4.on kd (fun h => h)⟩, qk.trans kd (fun _ _ h => h) (fun _ _ h => h.elim)⟩)
        clear ha1 ha2 hx1 hx2 hb1 hb2 c1 c2 HI0
        go_wp2_with fail
        have hst : ∀ (W : World) (q : Nat) (v : Value), (q = g1 ∨ q = g2 ∨ q = g3 ∨ q = g4) → Kept (fun q => q = g1 ∨ q = g2 ∨ q = g3 ∨ q = g4) w5 W → Kept (fun q => q = g1 ∨ q = g2 ∨ q = g3 ∨ q = g4) w5 (W.setCell ⟨q, k, none⟩ v) := fun W q v hq kk => kk.trans ((Kept.setCell (fun i => i = q) W ⟨q, k, none⟩ v rfl).mono (fun i _ e => by subst e; exact hq)) (fun _ _ h => h) (fun _ _ h => h)
        have HST := Lib.hid hst
        clear hst
        have HS0 := Lib.hid (HPK.out _ HID.out.kept)
        refine wp_region_held_drew (S := fun W => W.cell? ⟨x1, o1 + k, none⟩ = some (.bool b1) ∧ W.cell? ⟨x2, o2 + k, none⟩ = some (.bool b2)) (by kernel_rfl) HS0.out (fun _ => ?_)
        generalize wr.drew = wd at HID HS0 ⊢
        have HS1 : Hid (∀ v, (wd.setCell ⟨g1, k, none⟩ v).cell? ⟨x1, o1 + k, none⟩ = some (.bool b1) ∧ (wd.setCell ⟨g1, k, none⟩ v).cell? ⟨x2, o2 + k, none⟩ = some (.bool b2)) := Lib.hid fun v => HPK.out _ (HST.out _ g1 _ (Or.inl rfl) HID.out.kept)
        have HS2 : Hid (∀ v u, ((wd.setCell ⟨g1, k, none⟩ v).setCell ⟨g2, k, none⟩ u).cell? ⟨x1, o1 + k, none⟩ = some (.bool b1) ∧ ((wd.setCell ⟨g1, k, none⟩ v).setCell ⟨g2, k, none⟩ u).cell? ⟨x2, o2 + k, none⟩ = some (.bool b2)) := Lib.hid fun v u => HPK.out _ (HST.out _ g2 _ (Or.inr (Or.inl rfl)) (HST.out _ g1 _ (Or.inl rfl) HID.out.kept))
        have HS3 : Hid (∀ v u x, (((wd.setCell ⟨g1, k, none⟩ v).setCell ⟨g2, k, none⟩ u).setCell ⟨g3, k, none⟩ x).cell? ⟨x1, o1 + k, none⟩ = some (.bool b1) ∧ (((wd.setCell ⟨g1, k, none⟩ v).setCell ⟨g2, k, none⟩ u).setCell ⟨g3, k, none⟩ x).cell? ⟨x2, o2 + k, none⟩ = some (.bool b2)) := Lib.hid fun v u x => HPK.out _ (HST.out _ g3 _ (Or.inr (Or.inr (Or.inl rfl))) (HST.out _ g2 _ (Or.inr (Or.inl rfl)) (HST.out _ g1 _ (Or.inl rfl) HID.out.kept)))
        have HS4 : Hid (∀ v u x z, ((((wd.setCell ⟨g1, k, none⟩ v).setCell ⟨g2, k, none⟩ u).setCell ⟨g3, k, none⟩ x).setCell ⟨g4, k, none⟩ z).cell? ⟨x1, o1 + k, none⟩ = some (.bool b1) ∧ ((((wd.setCell ⟨g1, k, none⟩ v).setCell ⟨g2, k, none⟩ u).setCell ⟨g3, k, none⟩ x).setCell ⟨g4, k, none⟩ z).cell? ⟨x2, o2 + k, none⟩ = some (.bool b2)) := Lib.hid fun v u x z => HPK.out _ (HST.out _ g4 _ (Or.inr (Or.inr (Or.inr rfl))) (HST.out _ g3 _ (Or.inr (Or.inr (Or.inl rfl))) (HST.out _ g2 _ (Or.inr (Or.inl rfl)) (HST.out _ g1 _ (Or.inl rfl) HID.out.kept))))
        obtain ⟨⟨a1, q1⟩, ⟨a2, q2⟩, ⟨a3, q3⟩, ⟨a4, q4⟩, qk⟩ := HID.out
        obtain ⟨n1, n2, n3, n4, n5, n6⟩ := HNE.out
        have HG1 := Lib.hid (q1.cell hlt)
        have HZ1 := Lib.hid (q1.cell hlt).2; have HZ2 := Lib.hid (q2.cell hlt).2; have HZ3 := Lib.hid (q3.cell hlt).2; have HZ4 := Lib.hid (q4.cell hlt).2
        have HG2 := Lib.hid (fun v => (q2.set n1.symm k v).cell hlt)
        have HG3 := Lib.hid (fun v u => ((q3.set n2.symm k v).set n4.symm k u).cell hlt)
        have HG4 := Lib.hid (fun v u x => (((q4.set n3.symm k v).set n5.symm k u).set n6.symm k x).cell hlt)
        have HNX := Lib.hid (HID.out.next hlt HNE.out b1 b2 HX1.out HX2.out)
        clear q1 q2 q3 q4 qk n1 n2 n3 n4 n5 n6 HPK HST HX1 HX2 HF5 HG5 hI
        cases b1 with
        | true =>
          refine wpAnyH_take (i := 0) (v := .slice (some ⟨g1, 0, none⟩) M M) rfl (by kernel_rfl) (by kernel_rfl) (by kernel_rfl) (fun _ _ _ h => h) (Or.inl ⟨by simp [Region.wanted, yielded], fun W hW => by obtain ⟨s1, s2⟩ := hW; go_simp⟩) HS0.out ?_
          try (simp only [Act.put, List.getElem_toArray, List.getElem_cons_succ, List.getElem_cons_zero, List.setIfInBounds_toArray, List.set_cons_zero, List.set_cons_succ])
          refine wpAnyH_take (i := 1) (v := .int .i64 (k : Int)) rfl (by kernel_rfl) (by kernel_rfl) (by kernel_rfl) (fun _ _ _ h => h) (Or.inl ⟨by simp [Region.wanted, yielded], fun W hW => by obtain ⟨s1, s2⟩ := hW; go_simp⟩) HS0.out ?_
          try (simp only [Act.put, List.getElem_toArray, List.getElem_cons_succ, List.getElem_cons_zero, List.setIfInBounds_toArray, List.set_cons_zero, List.set_cons_succ])
          refine wpAnyH_take (i := 2) (v := .slice (some ⟨g2, 0, none⟩) M M) rfl (by kernel_rfl) (by kernel_rfl) (by kernel_rfl) (fun _ _ _ h => h) (Or.inl ⟨by simp [Region.wanted, yielded], fun W hW => by obtain ⟨s1, s2⟩ := hW; go_simp⟩) HS0.out ?_
          try (simp only [Act.put, List.getElem_toArray, List.getElem_cons_succ, List.getElem_cons_zero, List.setIfInBounds_toArray, List.set_cons_zero, List.set_cons_succ])
          refine wpAnyH_take (i := 3) (v := .int .i64 (k : Int)) rfl (by kernel_rfl) (by kernel_rfl) (by kernel_rfl) (fun _ _ _ h => h) (Or.inl ⟨by simp [Region.wanted, yielded], fun W hW => by obtain ⟨s1, s2⟩ := hW; go_simp⟩) HS0.out ?_
          try (simp only [Act.put, List.getElem_toArray, List.getElem_cons_succ, List.getElem_cons_zero, List.setIfInBounds_toArray, List.set_cons_zero, List.set_cons_succ])
          refine wpAnyH_take (i := 4) (v := .slice (some ⟨g3, 0, none⟩) M M) rfl (by kernel_rfl) (by kernel_rfl) (by kernel_rfl) (fun _ _ _ h => h) (Or.inl ⟨by simp [Region.wanted, yielded], fun W hW => by obtain ⟨s1, s2⟩ := hW; go_simp⟩) HS0.out ?_
          try (simp only [Act.put, List.getElem_toArray, List.getElem_cons_succ, List.getElem_cons_zero, List.setIfInBounds_toArray, List.set_cons_zero, List.set_cons_succ])
          refine wpAnyH_take (i := 5) (v := .int .i64 (k : Int)) rfl (by kernel_rfl) (by kernel_rfl) (by kernel_rfl) (fun _ _ _ h => h) (Or.inl ⟨by simp [Region.wanted, yielded], fun W hW => by obtain ⟨s1, s2⟩ := hW; go_simp⟩) HS0.out ?_
          try (simp only [Act.put, List.getElem_toArray, List.getElem_cons_succ, List.getElem_cons_zero, List.setIfInBounds_toArray, List.set_cons_zero, List.set_cons_succ])
          refine wpAnyH_take (i := 6) (v := .slice (some ⟨g4, 0, none⟩) M M) rfl (by kernel_rfl) (by kernel_rfl) (by kernel_rfl) (fun _ _ _ h => h) (Or.inl ⟨by simp [Region.wanted, yielded], fun W hW => by obtain ⟨s1, s2⟩ := hW; go_simp⟩) HS0.out ?_
          try (simp only [Act.put, List.getElem_toArray, List.getElem_cons_succ, List.getElem_cons_zero, List.setIfInBounds_toArray, List.set_cons_zero, List.set_cons_succ])
          refine wpAnyH_take (i := 7) (v := .int .i64 (k : Int)) rfl (by kernel_rfl) (by kernel_rfl) (by kernel_rfl) (fun _ _ _ h => h) (Or.inl ⟨by simp [Region.wanted, yielded], fun W hW => by obtain ⟨s1, s2⟩ := hW; go_simp⟩) HS0.out ?_
          try (simp only [Act.put, List.getElem_toArray, List.getElem_cons_succ, List.getElem_cons_zero, List.setIfInBounds_toArray, List.set_cons_zero, List.set_cons_succ])
          refine wpAnyH_take (i := 8) (v := .slice (some ⟨x1, o1, none⟩) M fc) rfl (by kernel_rfl) (by kernel_rfl) (by kernel_rfl) (fun _ _ _ h => h) (Or.inl ⟨by simp [Region.wanted, yielded], fun W hW => by obtain ⟨s1, s2⟩ := hW; go_simp⟩) HS0.out ?_
          try (simp only [Act.put, List.getElem_toArray, List.getElem_cons_succ, List.getElem_cons_zero, List.setIfInBounds_toArray, List.set_cons_zero, List.set_cons_succ])
          refine wpAnyH_take (i := 9) (v := .int .i64 (k : Int)) rfl (by kernel_rfl) (by kernel_rfl) (by kernel_rfl) (fun _ _ _ h => h) (Or.inl ⟨by simp [Region.wanted, yielded], fun W hW => by obtain ⟨s1, s2⟩ := hW; go_simp⟩) HS0.out ?_
          try (simp only [Act.put, List.getElem_toArray, List.getElem_cons_succ, List.getElem_cons_zero, List.setIfInBounds_toArray, List.set_cons_zero, List.set_cons_succ])
          refine wpAnyH_take (i := 10) (v := .pointer (some ⟨x1, o1 + k, none⟩)) rfl (by kernel_rfl) (by kernel_rfl) (by kernel_rfl) (fun _ _ _ h => h) (Or.inl ⟨by simp [Region.wanted, yielded], fun W hW => by obtain ⟨s1, s2⟩ := hW; go_simp⟩) HS0.out ?_
          try (simp only [Act.put, List.getElem_toArray, List.getElem_cons_succ, List.getElem_cons_zero, List.setIfInBounds_toArray, List.set_cons_zero, List.set_cons_succ])
          refine wpAnyH_take (i := 11) (v := .bool true) rfl (by kernel_rfl) (by kernel_rfl) (by kernel_rfl) (fun _ _ _ h => h) (Or.inl ⟨by simp [Region.wanted, yielded], fun W hW => by obtain ⟨s1, s2⟩ := hW; go_simp⟩) HS0.out ?_
          try (simp only [Act.put, List.getElem_toArray, List.getElem_cons_succ, List.getElem_cons_zero, List.setIfInBounds_toArray, List.set_cons_zero, List.set_cons_succ])
          refine wpAnyH_take (i := 12) (v := .bool true) rfl (by kernel_rfl) (by kernel_rfl) (by kernel_rfl) (fun _ _ _ h => h) (Or.inl ⟨by simp [Region.wanted, yielded], fun W hW => by obtain ⟨s1, s2⟩ := hW; go_simp⟩) HS0.out ?_
          try (simp only [Act.put, List.getElem_toArray, List.getElem_cons_succ, List.getElem_cons_zero, List.setIfInBounds_toArray, List.set_cons_zero, List.set_cons_succ])
          refine wpAnyH_take (i := 13) (v := undef) rfl (by kernel_rfl) (by kernel_rfl) (by kernel_rfl) (fun _ _ _ h => h) (Or.inr ⟨by first | (simp [Region.wanted, yielded]; done) | (simp [Region.wanted, yielded, undef]; done), rfl⟩) HS0.out ?_
          try (simp only [Act.put, List.getElem_toArray, List.getElem_cons_succ, List.getElem_cons_zero, List.setIfInBounds_toArray, List.set_cons_zero, List.set_cons_succ])
          refine wpAnyH_take (i := 14) (v := undef) rfl (by kernel_rfl) (by kernel_rfl) (by kernel_rfl) (fun _ _ _ h => h) (Or.inr ⟨by first | (simp [Region.wanted, yielded]; done) | (simp [Region.wanted, yielded, undef]; done), rfl⟩) HS0.out ?_
          try (simp only [Act.put, List.getElem_toArray, List.getElem_cons_succ, List.getElem_cons_zero, List.setIfInBounds_toArray, List.set_cons_zero, List.set_cons_succ])
          refine wpAnyH_take (i := 15) (v := undef) rfl (by kernel_rfl) (by kernel_rfl) (by kernel_rfl) (fun _ _ _ h => h) (Or.inr ⟨by first | (simp [Region.wanted, yielded]; done) | (simp [Region.wanted, yielded, undef]; done), rfl⟩) HS0.out ?_
          try (simp only [Act.put, List.getElem_toArray, List.getElem_cons_succ, List.getElem_cons_zero, List.setIfInBounds_toArray, List.set_cons_zero, List.set_cons_succ])
          refine wpAnyH_take (i := 16) (v := undef) rfl (by kernel_rfl) (by kernel_rfl) (by kernel_rfl) (fun _ _ _ h => h) (Or.inr ⟨by first | (simp [Region.wanted, yielded]; done) | (simp [Region.wanted, yielded, undef]; done), rfl⟩) HS0.out ?_
          try (simp only [Act.put, List.getElem_toArray, List.getElem_cons_succ, List.getElem_cons_zero, List.setIfInBounds_toArray, List.set_cons_zero, List.set_cons_succ])
          refine wpAnyH_take (i := 17) (v := .bool true) rfl (by kernel_rfl) (by kernel_rfl) (by kernel_rfl) (fun _ _ _ h => h) (Or.inl ⟨by simp [Region.wanted, yielded], fun W hW => by obtain ⟨s1, s2⟩ := hW; go_simp⟩) HS0.out ?_
          try (simp only [Act.put, List.getElem_toArray, List.getElem_cons_succ, List.getElem_cons_zero, List.setIfInBounds_toArray, List.set_cons_zero, List.set_cons_succ])
          refine wpAnyH_take (i := 18) (v := .slice (some ⟨x1, o1, none⟩) M fc) rfl (by kernel_rfl) (by kernel_rfl) (by kernel_rfl) (fun _ _ _ h => h) (Or.inl ⟨by simp [Region.wanted, yielded], fun W hW => by obtain ⟨s1, s2⟩ := hW; go_simp⟩) HS0.out ?_
          try (simp only [Act.put, List.getElem_toArray, List.getElem_cons_succ, List.getElem_cons_zero, List.setIfInBounds_toArray, List.set_cons_zero, List.set_cons_succ])
          refine wpAnyH_take (i := 19) (v := .int .i64 (k : Int)) rfl (by kernel_rfl) (by kernel_rfl) (by kernel_rfl) (fun _ _ _ h => h) (Or.inl ⟨by simp [Region.wanted, yielded], fun W hW => by obtain ⟨s1, s2⟩ := hW; go_simp⟩) HS0.out ?_
          try (simp only [Act.put, List.getElem_toArray, List.getElem_cons_succ, List.getElem_cons_zero, List.setIfInBounds_toArray, List.set_cons_zero, List.set_cons_succ])
          refine wpAnyH_take (i := 20) (v := .pointer (some ⟨x1, o1 + k, none⟩)) rfl (by kernel_rfl) (by kernel_rfl) (by kernel_rfl) (fun _ _ _ h => h) (Or.inl ⟨by simp [Region.wanted, yielded], fun W hW => by obtain ⟨s1, s2⟩ := hW; go_simp⟩) HS0.out ?_
          try (simp only [Act.put, List.getElem_toArray, List.getElem_cons_succ, List.getElem_cons_zero, List.setIfInBounds_toArray, List.set_cons_zero, List.set_cons_succ])
          refine wpAnyH_take (i := 21) (v := .bool true) rfl (by kernel_rfl) (by kernel_rfl) (by kernel_rfl) (fun _ _ _ h => h) (Or.inl ⟨by simp [Region.wanted, yielded], fun W hW => by obtain ⟨s1, s2⟩ := hW; go_simp⟩) HS0.out ?_
          try (simp only [Act.put, List.getElem_toArray, List.getElem_cons_succ, List.getElem_cons_zero, List.setIfInBounds_toArray, List.set_cons_zero, List.set_cons_succ])
          refine wpAnyH_take (i := 22) (v := .bool true) rfl (by kernel_rfl) (by kernel_rfl) (by kernel_rfl) (fun _ _ _ h => h) (Or.inl ⟨by simp [Region.wanted, yielded], fun W hW => by obtain ⟨s1, s2⟩ := hW; go_simp⟩) HS0.out ?_
          try (simp only [Act.put, List.getElem_toArray, List.getElem_cons_succ, List.getElem_cons_zero, List.setIfInBounds_toArray, List.set_cons_zero, List.set_cons_succ])
          refine wpAnyH_take (i := 23) (v := .slice (some ⟨x2, o2, none⟩) M gc) rfl (by kernel_rfl) (by kernel_rfl) (by kernel_rfl) (fun _ _ _ h => h) (Or.inl ⟨by simp [Region.wanted, yielded], fun W hW => by obtain ⟨s1, s2⟩ := hW; go_simp⟩) HS0.out ?_
          try (simp only [Act.put, List.getElem_toArray, List.getElem_cons_succ, List.getElem_cons_zero, List.setIfInBounds_toArray, List.set_cons_zero, List.set_cons_succ])
          refine wpAnyH_take (i := 24) (v := .int .i64 (k : Int)) rfl (by kernel_rfl) (by kernel_rfl) (by kernel_rfl) (fun _ _ _ h => h) (Or.inl ⟨by simp [Region.wanted, yielded], fun W hW => by obtain ⟨s1, s2⟩ := hW; go_simp⟩) HS0.out ?_
          try (simp only [Act.put, List.getElem_toArray, List.getElem_cons_succ, List.getElem_cons_zero, List.setIfInBounds_toArray, List.set_cons_zero, List.set_cons_succ])
          refine wpAnyH_take (i := 25) (v := .pointer (some ⟨x2, o2 + k, none⟩)) rfl (by kernel_rfl) (by kernel_rfl) (by kernel_rfl) (fun _ _ _ h => h) (Or.inl ⟨by simp [Region.wanted, yielded], fun W hW => by obtain ⟨s1, s2⟩ := hW; go_simp⟩) HS0.out ?_
          try (simp only [Act.put, List.getElem_toArray, List.getElem_cons_succ, List.getElem_cons_zero, List.setIfInBounds_toArray, List.set_cons_zero, List.set_cons_succ])
          refine wpAnyH_take (i := 26) (v := .bool b2) rfl (by kernel_rfl) (by kernel_rfl) (by kernel_rfl) (fun _ _ _ h => h) (Or.inl ⟨by simp [Region.wanted, yielded], fun W hW => by obtain ⟨s1, s2⟩ := hW; go_simp⟩) HS0.out ?_
          try (simp only [Act.put, List.getElem_toArray, List.getElem_cons_succ, List.getElem_cons_zero, List.setIfInBounds_toArray, List.set_cons_zero, List.set_cons_succ])
          refine wpAnyH_take (i := 27) (v := .bool b2) rfl (by kernel_rfl) (by kernel_rfl) (by kernel_rfl) (fun _ _ _ h => h) (Or.inl ⟨by simp [Region.wanted, yielded], fun W hW => by obtain ⟨s1, s2⟩ := hW; go_simp⟩) HS0.out ?_
          try (simp only [Act.put, List.getElem_toArray, List.getElem_cons_succ, List.getElem_cons_zero, List.setIfInBounds_toArray, List.set_cons_zero, List.set_cons_succ])
          refine wpAnyH_take (i := 28) (v := .slice (some ⟨x1, o1, none⟩) M fc) rfl (by kernel_rfl) (by kernel_rfl) (by kernel_rfl) (fun _ _ _ h => h) (Or.inl ⟨by simp [Region.wanted, yielded], fun W hW => by obtain ⟨s1, s2⟩ := hW; go_simp⟩) HS0.out ?_
          try (simp only [Act.put, List.getElem_toArray, List.getElem_cons_succ, List.getElem_cons_zero, List.setIfInBounds_toArray, List.set_cons_zero, List.set_cons_succ])
          refine wpAnyH_take (i := 29) (v := .int .i64 (k : Int)) rfl (by kernel_rfl) (by kernel_rfl) (by kernel_rfl) (fun _ _ _ h => h) (Or.inl ⟨by simp [Region.wanted, yielded], fun W hW => by obtain ⟨s1, s2⟩ := hW; go_simp⟩) HS0.out ?_
          try (simp only [Act.put, List.getElem_toArray, List.getElem_cons_succ, List.getElem_cons_zero, List.setIfInBounds_toArray, List.set_cons_zero, List.set_cons_succ])
          refine wpAnyH_take (i := 30) (v := .pointer (some ⟨x1, o1 + k, none⟩)) rfl (by kernel_rfl) (by kernel_rfl) (by kernel_rfl) (fun _ _ _ h => h) (Or.inl ⟨by simp [Region.wanted, yielded], fun W hW => by obtain ⟨s1, s2⟩ := hW; go_simp⟩) HS0.out ?_
          try (simp only [Act.put, List.getElem_toArray, List.getElem_cons_succ, List.getElem_cons_zero, List.setIfInBounds_toArray, List.set_cons_zero, List.set_cons_succ])
          refine wpAnyH_take (i := 31) (v := .bool true) rfl (by kernel_rfl) (by kernel_rfl) (by kernel_rfl) (fun _ _ _ h => h) (Or.inl ⟨by simp [Region.wanted, yielded], fun W hW => by obtain ⟨s1, s2⟩ := hW; go_simp⟩) HS0.out ?_
          try (simp only [Act.put, List.getElem_toArray, List.getElem_cons_succ, List.getElem_cons_zero, List.setIfInBounds_toArray, List.set_cons_zero, List.set_cons_succ])
          refine wpAnyH_take (i := 32) (v := .bool true) rfl (by kernel_rfl) (by kernel_rfl) (by kernel_rfl) (fun _ _ _ h => h) (Or.inl ⟨by simp [Region.wanted, yielded], fun W hW => by obtain ⟨s1, s2⟩ := hW; go_simp⟩) HS0.out ?_
          try (simp only [Act.put, List.getElem_toArray, List.getElem_cons_succ, List.getElem_cons_zero, List.setIfInBounds_toArray, List.set_cons_zero, List.set_cons_succ])
          refine wpAnyH_take (i := 33) (v := .slice (some ⟨x2, o2, none⟩) M gc) rfl (by kernel_rfl) (by kernel_rfl) (by kernel_rfl) (fun _ _ _ h => h) (Or.inl ⟨by simp [Region.wanted, yielded], fun W hW => by obtain ⟨s1, s2⟩ := hW; go_simp⟩) HS0.out ?_
          try (simp only [Act.put, List.getElem_toArray, List.getElem_cons_succ, List.getElem_cons_zero, List.setIfInBounds_toArray, List.set_cons_zero, List.set_cons_succ])
          refine wpAnyH_take (i := 34) (v := .int .i64 (k : Int)) rfl (by kernel_rfl) (by kernel_rfl) (by kernel_rfl) (fun _ _ _ h => h) (Or.inl ⟨by simp [Region.wanted, yielded], fun W hW => by obtain ⟨s1, s2⟩ := hW; go_simp⟩) HS0.out ?_
          try (simp only [Act.put, List.getElem_toArray, List.getElem_cons_succ, List.getElem_cons_zero, List.setIfInBounds_toArray, List.set_cons_zero, List.set_cons_succ])
          refine wpAnyH_take (i := 35) (v := .pointer (some ⟨x2, o2 + k, none⟩)) rfl (by kernel_rfl) (by kernel_rfl) (by kernel_rfl) (fun _ _ _ h => h) (Or.inl ⟨by simp [Region.wanted, yielded], fun W hW => by obtain ⟨s1, s2⟩ := hW; go_simp⟩) HS0.out ?_
          try (simp only [Act.put, List.getElem_toArray, List.getElem_cons_succ, List.getElem_cons_zero, List.setIfInBounds_toArray, List.set_cons_zero, List.set_cons_succ])
          refine wpAnyH_take (i := 36) (v := .bool b2) rfl (by kernel_rfl) (by kernel_rfl) (by kernel_rfl) (fun _ _ _ h => h) (Or.inl ⟨by simp [Region.wanted, yielded], fun W hW => by obtain ⟨s1, s2⟩ := hW; go_simp⟩) HS0.out ?_
          try (simp only [Act.put, List.getElem_toArray, List.getElem_cons_succ, List.getElem_cons_zero, List.setIfInBounds_toArray, List.set_cons_zero, List.set_cons_succ])
          refine wpAnyH_take (i := 37) (v := .bool (!b2)) rfl (by kernel_rfl) (by kernel_rfl) (by kernel_rfl) (fun _ _ _ h => h) (Or.inl ⟨by simp [Region.wanted, yielded], fun W hW => by obtain ⟨s1, s2⟩ := hW; go_simp⟩) HS0.out ?_
          try (simp only [Act.put, List.getElem_toArray, List.getElem_cons_succ, List.getElem_cons_zero, List.setIfInBounds_toArray, List.set_cons_zero, List.set_cons_succ])
          refine wpAnyH_take (i := 38) (v := .bool (!b2)) rfl (by kernel_rfl) (by kernel_rfl) (by kernel_rfl) (fun _ _ _ h => h) (Or.inl ⟨by simp [Region.wanted, yielded], fun W hW => by obtain ⟨s1, s2⟩ := hW; go_simp⟩) HS0.out ?_
          try (simp only [Act.put, List.getElem_toArray, List.getElem_cons_succ, List.getElem_cons_zero, List.setIfInBounds_toArray, List.set_cons_zero, List.set_cons_succ])
          refine wpAnyH_take (i := 39) (v := .slice (some ⟨x1, o1, none⟩) M fc) rfl (by kernel_rfl) (by kernel_rfl) (by kernel_rfl) (fun _ _ _ h => h) (Or.inl ⟨by simp [Region.wanted, yielded], fun W hW => by obtain ⟨s1, s2⟩ := hW; go_simp⟩) HS0.out ?_
          try (simp only [Act.put, List.getElem_toArray, List.getElem_cons_succ, List.getElem_cons_zero, List.setIfInBounds_toArray, List.set_cons_zero, List.set_cons_succ])
          refine wpAnyH_take (i := 40) (v := .int .i64 (k : Int)) rfl (by kernel_rfl) (by kernel_rfl) (by kernel_rfl) (fun _ _ _ h => h) (Or.inl ⟨by simp [Region.wanted, yielded], fun W hW => by obtain ⟨s1, s2⟩ := hW; go_simp⟩) HS0.out ?_
          try (simp only [Act.put, List.getElem_toArray, List.getElem_cons_succ, List.getElem_cons_zero, List.setIfInBounds_toArray, List.set_cons_zero, List.set_cons_succ])
          refine wpAnyH_take (i := 41) (v := .pointer (some ⟨x1, o1 + k, none⟩)) rfl (by kernel_rfl) (by kernel_rfl) (by kernel_rfl) (fun _ _ _ h => h) (Or.inl ⟨by simp [Region.wanted, yielded], fun W hW => by obtain ⟨s1, s2⟩ := hW; go_simp⟩) HS0.out ?_
          try (simp only [Act.put, List.getElem_toArray, List.getElem_cons_succ, List.getElem_cons_zero, List.setIfInBounds_toArray, List.set_cons_zero, List.set_cons_succ])
          refine wpAnyH_take (i := 42) (v := .bool true) rfl (by kernel_rfl) (by kernel_rfl) (by kernel_rfl) (fun _ _ _ h => h) (Or.inl ⟨by simp [Region.wanted, yielded], fun W hW => by obtain ⟨s1, s2⟩ := hW; go_simp⟩) HS0.out ?_
          try (simp only [Act.put, List.getElem_toArray, List.getElem_cons_succ, List.getElem_cons_zero, List.setIfInBounds_toArray, List.set_cons_zero, List.set_cons_succ])
          refine wpAnyH_take (i := 43) (v := .bool false) rfl (by kernel_rfl) (by kernel_rfl) (by kernel_rfl) (fun _ _ _ h => h) (Or.inl ⟨by simp [Region.wanted, yielded], fun W hW => by obtain ⟨s1, s2⟩ := hW; go_simp⟩) HS0.out ?_
          try (simp only [Act.put, List.getElem_toArray, List.getElem_cons_succ, List.getElem_cons_zero, List.setIfInBounds_toArray, List.set_cons_zero, List.set_cons_succ])
          refine wpAnyH_take (i := 44) (v := .pointer (some ⟨g1, k, none⟩)) rfl (by kernel_rfl) (by kernel_rfl) (by kernel_rfl) (fun _ _ _ h => h) (Or.inl ⟨by simp [Region.wanted, yielded], fun W hW => by obtain ⟨s1, s2⟩ := hW; go_simp⟩) HS0.out ?_
          try (simp only [Act.put, List.getElem_toArray, List.getElem_cons_succ, List.getElem_cons_zero, List.setIfInBounds_toArray, List.set_cons_zero, List.set_cons_succ])
          refine wpAnyH_ready (rs := [45]) (by kernel_rfl) (by simp) ?_
          refine AllReadyH.cons (o := _) rfl (fun KK hKK => ?_) AllReadyH.nil
          have cc := HG1.out.1
          have cf := HZ1.out
          rw [if_pos (by simp [Region.wanted, yielded])]
          go_simp
          refine hKK.out _ _ (HS1.out _) (fun _ => ?_)
          clear hKK KK
          try (simp only [Act.put, List.getElem_toArray, List.getElem_cons_succ, List.getElem_cons_zero, List.setIfInBounds_toArray, List.set_cons_zero, List.set_cons_succ])
          clear cc cf
          refine wpAnyH_take (i := 46) (v := .pointer (some ⟨g2, k, none⟩)) rfl (by kernel_rfl) (by kernel_rfl) (by kernel_rfl) (fun _ _ _ h => h) (Or.inl ⟨by simp [Region.wanted, yielded], fun W hW => by obtain ⟨s1, s2⟩ := hW; go_simp⟩) (HS1.out _) ?_
          try (simp only [Act.put, List.getElem_toArray, List.getElem_cons_succ, List.getElem_cons_zero, List.setIfInBounds_toArray, List.set_cons_zero, List.set_cons_succ])
          refine wpAnyH_ready (rs := [47]) (by kernel_rfl) (by simp) ?_
          refine AllReadyH.cons (o := _) rfl (fun KK hKK => ?_) AllReadyH.nil
          have cc := (HG2.out (.bool true)).1
          have cf := HZ2.out
          rw [if_pos (by simp [Region.wanted, yielded])]
          go_simp
          refine hKK.out _ _ (HS2.out _ _) (fun _ => ?_)
          clear hKK KK
          try (simp only [Act.put, List.getElem_toArray, List.getElem_cons_succ, List.getElem_cons_zero, List.setIfInBounds_toArray, List.set_cons_zero, List.set_cons_succ])
          clear cc cf
          refine wpAnyH_take (i := 48) (v := .pointer (some ⟨g3, k, none⟩)) rfl (by kernel_rfl) (by kernel_rfl) (by kernel_rfl) (fun _ _ _ h => h) (Or.inl ⟨by simp [Region.wanted, yielded], fun W hW => by obtain ⟨s1, s2⟩ := hW; go_simp⟩) (HS2.out _ _) ?_
          try (simp only [Act.put, List.getElem_toArray, List.getElem_cons_succ, List.getElem_cons_zero, List.setIfInBounds_toArray, List.set_cons_zero, List.set_cons_succ])
          refine wpAnyH_ready (rs := [49]) (by kernel_rfl) (by simp) ?_
          refine AllReadyH.cons (o := _) rfl (fun KK hKK => ?_) AllReadyH.nil
          have cc := (HG3.out (.bool true) (.bool b2)).1
          have cf := HZ3.out
          rw [if_pos (by simp [Region.wanted, yielded])]
          go_simp
          refine hKK.out _ _ (HS3.out _ _ _) (fun _ => ?_)
          clear hKK KK
          try (simp only [Act.put, List.getElem_toArray, List.getElem_cons_succ, List.getElem_cons_zero, List.setIfInBounds_toArray, List.set_cons_zero, List.set_cons_succ])
          clear cc cf
          refine wpAnyH_take (i := 50) (v := .pointer (some ⟨g4, k, none⟩)) rfl (by kernel_rfl) (by kernel_rfl) (by kernel_rfl) (fun _ _ _ h => h) (Or.inl ⟨by simp [Region.wanted, yielded], fun W hW => by obtain ⟨s1, s2⟩ := hW; go_simp⟩) (HS3.out _ _ _) ?_
          try (simp only [Act.put, List.getElem_toArray, List.getElem_cons_succ, List.getElem_cons_zero, List.setIfInBounds_toArray, List.set_cons_zero, List.set_cons_succ])
          refine wpAnyH_ready (rs := [51]) (by kernel_rfl) (by simp) ?_
          refine AllReadyH.cons (o := _) rfl (fun KK hKK => ?_) AllReadyH.nil
          have cc := (HG4.out (.bool true) (.bool b2) (.bool (!b2))).1
          have cf := HZ4.out
          rw [if_pos (by simp [Region.wanted, yielded])]
          go_simp
          refine hKK.out _ _ (HS4.out _ _ _ _) (fun _ => ?_)
          clear hKK KK
          try (simp only [Act.put, List.getElem_toArray, List.getElem_cons_succ, List.getElem_cons_zero, List.setIfInBounds_toArray, List.set_cons_zero, List.set_cons_succ])
          clear cc cf
          refine wpAnyH_done (by kernel_rfl) ?_ _
          go_wp2_with fail
          go_roundw
          case rel => exact ⟨k + 1, by omega, by go_num, HNX⟩
          case measure => simp [intOf]; omega
        | false =>
          refine wpAnyH_take (i := 0) (v := .slice (some ⟨g1, 0, none⟩) M M) rfl (by kernel_rfl) (by kernel_rfl) (by kernel_rfl) (fun _ _ _ h => h) (Or.inl ⟨by simp [Region.wanted, yielded], fun W hW => by obtain ⟨s1, s2⟩ := hW; go_simp⟩) HS0.out ?_
          try (simp only [Act.put, List.getElem_toArray, List.getElem_cons_succ, List.getElem_cons_zero, List.setIfInBounds_toArray, List.set_cons_zero, List.set_cons_succ])
          refine wpAnyH_take (i := 1) (v := .int .i64 (k : Int)) rfl (by kernel_rfl) (by kernel_rfl) (by kernel_rfl) (fun _ _ _ h => h) (Or.inl ⟨by simp [Region.wanted, yielded], fun W hW => by obtain ⟨s1, s2⟩ := hW; go_simp⟩) HS0.out ?_
          try (simp only [Act.put, List.getElem_toArray, List.getElem_cons_succ, List.getElem_cons_zero, List.setIfInBounds_toArray, List.set_cons_zero, List.set_cons_succ])
          refine wpAnyH_take (i := 2) (v := .slice (some ⟨g2, 0, none⟩) M M) rfl (by kernel_rfl) (by kernel_rfl) (by kernel_rfl) (fun _ _ _ h => h) (Or.inl ⟨by simp [Region.wanted, yielded], fun W hW => by obtain ⟨s1, s2⟩ := hW; go_simp⟩) HS0.out ?_
          try (simp only [Act.put, List.getElem_toArray, List.getElem_cons_succ, List.getElem_cons_zero, List.setIfInBounds_toArray, List.set_cons_zero, List.set_cons_succ])
          refine wpAnyH_take (i := 3) (v := .int .i64 (k : Int)) rfl (by kernel_rfl) (by kernel_rfl) (by kernel_rfl) (fun _ _ _ h => h) (Or.inl ⟨by simp [Region.wanted, yielded], fun W hW => by obtain ⟨s1, s2⟩ := hW; go_simp⟩) HS0.out ?_
          try (simp only [Act.put, List.getElem_toArray, List.getElem_cons_succ, List.getElem_cons_zero, List.setIfInBounds_toArray, List.set_cons_zero, List.set_cons_succ])
          refine wpAnyH_take (i := 4) (v := .slice (some ⟨g3, 0, none⟩) M M) rfl (by kernel_rfl) (by kernel_rfl) (by kernel_rfl) (fun _ _ _ h => h) (Or.inl ⟨by simp [Region.wanted, yielded], fun W hW => by obtain ⟨s1, s2⟩ := hW; go_simp⟩) HS0.out ?_
          try (simp only [Act.put, List.getElem_toArray, List.getElem_cons_succ, List.getElem_cons_zero, List.setIfInBounds_toArray, List.set_cons_zero, List.set_cons_succ])
          refine wpAnyH_take (i := 5) (v := .int .i64 (k : Int)) rfl (by kernel_rfl) (by kernel_rfl) (by kernel_rfl) (fun _ _ _ h => h) (Or.inl ⟨by simp [Region.wanted, yielded], fun W hW => by obtain ⟨s1, s2⟩ := hW; go_simp⟩) HS0.out ?_
          try (simp only [Act.put, List.getElem_toArray, List.getElem_cons_succ, List.getElem_cons_zero, List.setIfInBounds_toArray, List.set_cons_zero, List.set_cons_succ])
          refine wpAnyH_take (i := 6) (v := .slice (some ⟨g4, 0, none⟩) M M) rfl (by kernel_rfl) (by kernel_rfl) (by kernel_rfl) (fun _ _ _ h => h) (Or.inl ⟨by simp [Region.wanted, yielded], fun W hW => by obtain ⟨s1, s2⟩ := hW; go_simp⟩) HS0.out ?_
          try (simp only [Act.put, List.getElem_toArray, List.getElem_cons_succ, List.getElem_cons_zero, List.setIfInBounds_toArray, List.set_cons_zero, List.set_cons_succ])
          refine wpAnyH_take (i := 7) (v := .int .i64 (k : Int)) rfl (by kernel_rfl) (by kernel_rfl) (by kernel_rfl) (fun _ _ _ h => h) (Or.inl ⟨by simp [Region.wanted, yielded], fun W hW => by obtain ⟨s1, s2⟩ := hW; go_simp⟩) HS0.out ?_
          try (simp only [Act.put, List.getElem_toArray, List.getElem_cons_succ, List.getElem_cons_zero, List.setIfInBounds_toArray, List.set_cons_zero, List.set_cons_succ])
          refine wpAnyH_take (i := 8) (v := .slice (some ⟨x1, o1, none⟩) M fc) rfl (by kernel_rfl) (by kernel_rfl) (by kernel_rfl) (fun _ _ _ h => h) (Or.inl ⟨by simp [Region.wanted, yielded], fun W hW => by obtain ⟨s1, s2⟩ := hW; go_simp⟩) HS0.out ?_
          try (simp only [Act.put, List.getElem_toArray, List.getElem_cons_succ, List.getElem_cons_zero, List.setIfInBounds_toArray, List.set_cons_zero, List.set_cons_succ])
          refine wpAnyH_take (i := 9) (v := .int .i64 (k : Int)) rfl (by kernel_rfl) (by kernel_rfl) (by kernel_rfl) (fun _ _ _ h => h) (Or.inl ⟨by simp [Region.wanted, yielded], fun W hW => by obtain ⟨s1, s2⟩ := hW; go_simp⟩) HS0.out ?_
          try (simp only [Act.put, List.getElem_toArray, List.getElem_cons_succ, List.getElem_cons_zero, List.setIfInBounds_toArray, List.set_cons_zero, List.set_cons_succ])
          refine wpAnyH_take (i := 10) (v := .pointer (some ⟨x1, o1 + k, none⟩)) rfl (by kernel_rfl) (by kernel_rfl) (by kernel_rfl) (fun _ _ _ h => h) (Or.inl ⟨by simp [Region.wanted, yielded], fun W hW => by obtain ⟨s1, s2⟩ := hW; go_simp⟩) HS0.out ?_
          try (simp only [Act.put, List.getElem_toArray, List.getElem_cons_succ, List.getElem_cons_zero, List.setIfInBounds_toArray, List.set_cons_zero, List.set_cons_succ])
          refine wpAnyH_take (i := 11) (v := .bool false) rfl (by kernel_rfl) (by kernel_rfl) (by kernel_rfl) (fun _ _ _ h => h) (Or.inl ⟨by simp [Region.wanted, yielded], fun W hW => by obtain ⟨s1, s2⟩ := hW; go_simp⟩) HS0.out ?_
          try (simp only [Act.put, List.getElem_toArray, List.getElem_cons_succ, List.getElem_cons_zero, List.setIfInBounds_toArray, List.set_cons_zero, List.set_cons_succ])
          refine wpAnyH_take (i := 12) (v := .bool false) rfl (by kernel_rfl) (by kernel_rfl) (by kernel_rfl) (fun _ _ _ h => h) (Or.inl ⟨by simp [Region.wanted, yielded], fun W hW => by obtain ⟨s1, s2⟩ := hW; go_simp⟩) HS0.out ?_
          try (simp only [Act.put, List.getElem_toArray, List.getElem_cons_succ, List.getElem_cons_zero, List.setIfInBounds_toArray, List.set_cons_zero, List.set_cons_succ])
          refine wpAnyH_take (i := 13) (v := .slice (some ⟨x2, o2, none⟩) M gc) rfl (by kernel_rfl) (by kernel_rfl) (by kernel_rfl) (fun _ _ _ h => h) (Or.inl ⟨by simp [Region.wanted, yielded], fun W hW => by obtain ⟨s1, s2⟩ := hW; go_simp⟩) HS0.out ?_
          try (simp only [Act.put, List.getElem_toArray, List.getElem_cons_succ, List.getElem_cons_zero, List.setIfInBounds_toArray, List.set_cons_zero, List.set_cons_succ])
          refine wpAnyH_take (i := 14) (v := .int .i64 (k : Int)) rfl (by kernel_rfl) (by kernel_rfl) (by kernel_rfl) (fun _ _ _ h => h) (Or.inl ⟨by simp [Region.wanted, yielded], fun W hW => by obtain ⟨s1, s2⟩ := hW; go_simp⟩) HS0.out ?_
          try (simp only [Act.put, List.getElem_toArray, List.getElem_cons_succ, List.getElem_cons_zero, List.setIfInBounds_toArray, List.set_cons_zero, List.set_cons_succ])
          refine wpAnyH_take (i := 15) (v := .pointer (some ⟨x2, o2 + k, none⟩)) rfl (by kernel_rfl) (by kernel_rfl) (by kernel_rfl) (fun _ _ _ h => h) (Or.inl ⟨by simp [Region.wanted, yielded], fun W hW => by obtain ⟨s1, s2⟩ := hW; go_simp⟩) HS0.out ?_
          try (simp only [Act.put, List.getElem_toArray, List.getElem_cons_succ, List.getElem_cons_zero, List.setIfInBounds_toArray, List.set_cons_zero, List.set_cons_succ])
          refine wpAnyH_take (i := 16) (v := .bool b2) rfl (by kernel_rfl) (by kernel_rfl) (by kernel_rfl) (fun _ _ _ h => h) (Or.inl ⟨by simp [Region.wanted, yielded], fun W hW => by obtain ⟨s1, s2⟩ := hW; go_simp⟩) HS0.out ?_
          try (simp only [Act.put, List.getElem_toArray, List.getElem_cons_succ, List.getElem_cons_zero, List.setIfInBounds_toArray, List.set_cons_zero, List.set_cons_succ])
          refine wpAnyH_take (i := 17) (v := .bool b2) rfl (by kernel_rfl) (by kernel_rfl) (by kernel_rfl) (fun _ _ _ h => h) (Or.inl ⟨by simp [Region.wanted, yielded], fun W hW => by obtain ⟨s1, s2⟩ := hW; go_simp⟩) HS0.out ?_
          try (simp only [Act.put, List.getElem_toArray, List.getElem_cons_succ, List.getElem_cons_zero, List.setIfInBounds_toArray, List.set_cons_zero, List.set_cons_succ])
          refine wpAnyH_take (i := 18) (v := .slice (some ⟨x1, o1, none⟩) M fc) rfl (by kernel_rfl) (by kernel_rfl) (by kernel_rfl) (fun _ _ _ h => h) (Or.inl ⟨by simp [Region.wanted, yielded], fun W hW => by obtain ⟨s1, s2⟩ := hW; go_simp⟩) HS0.out ?_
          try (simp only [Act.put, List.getElem_toArray, List.getElem_cons_succ, List.getElem_cons_zero, List.setIfInBounds_toArray, List.set_cons_zero, List.set_cons_succ])
          refine wpAnyH_take (i := 19) (v := .int .i64 (k : Int)) rfl (by kernel_rfl) (by kernel_rfl) (by kernel_rfl) (fun _ _ _ h => h) (Or.inl ⟨by simp [Region.wanted, yielded], fun W hW => by obtain ⟨s1, s2⟩ := hW; go_simp⟩) HS0.out ?_
          try (simp only [Act.put, List.getElem_toArray, List.getElem_cons_succ, List.getElem_cons_zero, List.setIfInBounds_toArray, List.set_cons_zero, List.set_cons_succ])
          refine wpAnyH_take (i := 20) (v := .pointer (some ⟨x1, o1 + k, none⟩)) rfl (by kernel_rfl) (by kernel_rfl) (by kernel_rfl) (fun _ _ _ h => h) (Or.inl ⟨by simp [Region.wanted, yielded], fun W hW => by obtain ⟨s1, s2⟩ := hW; go_simp⟩) HS0.out ?_
          try (simp only [Act.put, List.getElem_toArray, List.getElem_cons_succ, List.getElem_cons_zero, List.setIfInBounds_toArray, List.set_cons_zero, List.set_cons_succ])
          refine wpAnyH_take (i := 21) (v := .bool false) rfl (by kernel_rfl) (by kernel_rfl) (by kernel_rfl) (fun _ _ _ h => h) (Or.inl ⟨by simp [Region.wanted, yielded], fun W hW => by obtain ⟨s1, s2⟩ := hW; go_simp⟩) HS0.out ?_
          try (simp only [Act.put, List.getElem_toArray, List.getElem_cons_succ, List.getElem_cons_zero, List.setIfInBounds_toArray, List.set_cons_zero, List.set_cons_succ])
          refine wpAnyH_take (i := 22) (v := .bool false) rfl (by kernel_rfl) (by kernel_rfl) (by kernel_rfl) (fun _ _ _ h => h) (Or.inl ⟨by simp [Region.wanted, yielded], fun W hW => by obtain ⟨s1, s2⟩ := hW; go_simp⟩) HS0.out ?_
          try (simp only [Act.put, List.getElem_toArray, List.getElem_cons_succ, List.getElem_cons_zero, List.setIfInBounds_toArray, List.set_cons_zero, List.set_cons_succ])
          refine wpAnyH_take (i := 23) (v := undef) rfl (by kernel_rfl) (by kernel_rfl) (by kernel_rfl) (fun _ _ _ h => h) (Or.inr ⟨by first | (simp [Region.wanted, yielded]; done) | (simp [Region.wanted, yielded, undef]; done), rfl⟩) HS0.out ?_
          try (simp only [Act.put, List.getElem_toArray, List.getElem_cons_succ, List.getElem_cons_zero, List.setIfInBounds_toArray, List.set_cons_zero, List.set_cons_succ])
          refine wpAnyH_take (i := 24) (v := undef) rfl (by kernel_rfl) (by kernel_rfl) (by kernel_rfl) (fun _ _ _ h => h) (Or.inr ⟨by first | (simp [Region.wanted, yielded]; done) | (simp [Region.wanted, yielded, undef]; done), rfl⟩) HS0.out ?_
          try (simp only [Act.put, List.getElem_toArray, List.getElem_cons_succ, List.getElem_cons_zero, List.setIfInBounds_toArray, List.set_cons_zero, List.set_cons_succ])
          refine wpAnyH_take (i := 25) (v := undef) rfl (by kernel_rfl) (by kernel_rfl) (by kernel_rfl) (fun _ _ _ h => h) (Or.inr ⟨by first | (simp [Region.wanted, yielded]; done) | (simp [Region.wanted, yielded, undef]; done), rfl⟩) HS0.out ?_
          try (simp only [Act.put, List.getElem_toArray, List.getElem_cons_succ, List.getElem_cons_zero, List.setIfInBounds_toArray, List.set_cons_zero, List.set_cons_succ])
          refine wpAnyH_take (i := 26) (v := undef) rfl (by kernel_rfl) (by kernel_rfl) (by kernel_rfl) (fun _ _ _ h => h) (Or.inr ⟨by first | (simp [Region.wanted, yielded]; done) | (simp [Region.wanted, yielded, undef]; done), rfl⟩) HS0.out ?_
          try (simp only [Act.put, List.getElem_toArray, List.getElem_cons_succ, List.getElem_cons_zero, List.setIfInBounds_toArray, List.set_cons_zero, List.set_cons_succ])
          refine wpAnyH_take (i := 27) (v := .bool false) rfl (by kernel_rfl) (by kernel_rfl) (by kernel_rfl) (fun _ _ _ h => h) (Or.inl ⟨by simp [Region.wanted, yielded], fun W hW => by obtain ⟨s1, s2⟩ := hW; go_simp⟩) HS0.out ?_
          try (simp only [Act.put, List.getElem_toArray, List.getElem_cons_succ, List.getElem_cons_zero, List.setIfInBounds_toArray, List.set_cons_zero, List.set_cons_succ])
          refine wpAnyH_take (i := 28) (v := .slice (some ⟨x1, o1, none⟩) M fc) rfl (by kernel_rfl) (by kernel_rfl) (by kernel_rfl) (fun _ _ _ h => h) (Or.inl ⟨by simp [Region.wanted, yielded], fun W hW => by obtain ⟨s1, s2⟩ := hW; go_simp⟩) HS0.out ?_
          try (simp only [Act.put, List.getElem_toArray, List.getElem_cons_succ, List.getElem_cons_zero, List.setIfInBounds_toArray, List.set_cons_zero, List.set_cons_succ])
          refine wpAnyH_take (i := 29) (v := .int .i64 (k : Int)) rfl (by kernel_rfl) (by kernel_rfl) (by kernel_rfl) (fun _ _ _ h => h) (Or.inl ⟨by simp [Region.wanted, yielded], fun W hW => by obtain ⟨s1, s2⟩ := hW; go_simp⟩) HS0.out ?_
          try (simp only [Act.put, List.getElem_toArray, List.getElem_cons_succ, List.getElem_cons_zero, List.setIfInBounds_toArray, List.set_cons_zero, List.set_cons_succ])
          refine wpAnyH_take (i := 30) (v := .pointer (some ⟨x1, o1 + k, none⟩)) rfl (by kernel_rfl) (by kernel_rfl) (by kernel_rfl) (fun _ _ _ h => h) (Or.inl ⟨by simp [Region.wanted, yielded], fun W hW => by obtain ⟨s1, s2⟩ := hW; go_simp⟩) HS0.out ?_
          try (simp only [Act.put, List.getElem_toArray, List.getElem_cons_succ, List.getElem_cons_zero, List.setIfInBounds_toArray, List.set_cons_zero, List.set_cons_succ])
          refine wpAnyH_take (i := 31) (v := .bool false) rfl (by kernel_rfl) (by kernel_rfl) (by kernel_rfl) (fun _ _ _ h => h) (Or.inl ⟨by simp [Region.wanted, yielded], fun W hW => by obtain ⟨s1, s2⟩ := hW; go_simp⟩) HS0.out ?_
          try (simp only [Act.put, List.getElem_toArray, List.getElem_cons_succ, List.getElem_cons_zero, List.setIfInBounds_toArray, List.set_cons_zero, List.set_cons_succ])
          refine wpAnyH_take (i := 32) (v := .bool false) rfl (by kernel_rfl) (by kernel_rfl) (by kernel_rfl) (fun _ _ _ h => h) (Or.inl ⟨by simp [Region.wanted, yielded], fun W hW => by obtain ⟨s1, s2⟩ := hW; go_simp⟩) HS0.out ?_
          try (simp only [Act.put, List.getElem_toArray, List.getElem_cons_succ, List.getElem_cons_zero, List.setIfInBounds_toArray, List.set_cons_zero, List.set_cons_succ])
          refine wpAnyH_take (i := 33) (v := undef) rfl (by kernel_rfl) (by kernel_rfl) (by kernel_rfl) (fun _ _ _ h => h) (Or.inr ⟨by first | (simp [Region.wanted, yielded]; done) | (simp [Region.wanted, yielded, undef]; done), rfl⟩) HS0.out ?_
          try (simp only [Act.put, List.getElem_toArray, List.getElem_cons_succ, List.getElem_cons_zero, List.setIfInBounds_toArray, List.set_cons_zero, List.set_cons_succ])
          refine wpAnyH_take (i := 34) (v := undef) rfl (by kernel_rfl) (by kernel_rfl) (by kernel_rfl) (fun _ _ _ h => h) (Or.inr ⟨by first | (simp [Region.wanted, yielded]; done) | (simp [Region.wanted, yielded, undef]; done), rfl⟩) HS0.out ?_
          try (simp only [Act.put, List.getElem_toArray, List.getElem_cons_succ, List.getElem_cons_zero, List.setIfInBounds_toArray, List.set_cons_zero, List.set_cons_succ])
          refine wpAnyH_take (i := 35) (v := undef) rfl (by kernel_rfl) (by kernel_rfl) (by kernel_rfl) (fun _ _ _ h => h) (Or.inr ⟨by first | (simp [Region.wanted, yielded]; done) | (simp [Region.wanted, yielded, undef]; done), rfl⟩) HS0.out ?_
          try (simp only [Act.put, List.getElem_toArray, List.getElem_cons_succ, List.getElem_cons_zero, List.setIfInBounds_toArray, List.set_cons_zero, List.set_cons_succ])
          refine wpAnyH_take (i := 36) (v := undef) rfl (by kernel_rfl) (by kernel_rfl) (by kernel_rfl) (fun _ _ _ h => h) (Or.inr ⟨by first | (simp [Region.wanted, yielded]; done) | (simp [Region.wanted, yielded, undef]; done), rfl⟩) HS0.out ?_
          try (simp only [Act.put, List.getElem_toArray, List.getElem_cons_succ, List.getElem_cons_zero, List.setIfInBounds_toArray, List.set_cons_zero, List.set_cons_succ])
          refine wpAnyH_take (i := 37) (v := undef) rfl (by kernel_rfl) (by kernel_rfl) (by kernel_rfl) (fun _ _ _ h => h) (Or.inr ⟨by first | (simp [Region.wanted, yielded]; done) | (simp [Region.wanted, yielded, undef]; done), rfl⟩) HS0.out ?_
          try (simp only [Act.put, List.getElem_toArray, List.getElem_cons_succ, List.getElem_cons_zero, List.setIfInBounds_toArray, List.set_cons_zero, List.set_cons_succ])
          refine wpAnyH_take (i := 38) (v := .bool false) rfl (by kernel_rfl) (by kernel_rfl) (by kernel_rfl) (fun _ _ _ h => h) (Or.inl ⟨by simp [Region.wanted, yielded], fun W hW => by obtain ⟨s1, s2⟩ := hW; go_simp⟩) HS0.out ?_
          try (simp only [Act.put, List.getElem_toArray, List.getElem_cons_succ, List.getElem_cons_zero, List.setIfInBounds_toArray, List.set_cons_zero, List.set_cons_succ])
          refine wpAnyH_take (i := 39) (v := .slice (some ⟨x1, o1, none⟩) M fc) rfl (by kernel_rfl) (by kernel_rfl) (by kernel_rfl) (fun _ _ _ h => h) (Or.inl ⟨by simp [Region.wanted, yielded], fun W hW => by obtain ⟨s1, s2⟩ := hW; go_simp⟩) HS0.out ?_
          try (simp only [Act.put, List.getElem_toArray, List.getElem_cons_succ, List.getElem_cons_zero, List.setIfInBounds_toArray, List.set_cons_zero, List.set_cons_succ])
          refine wpAnyH_take (i := 40) (v := .int .i64 (k : Int)) rfl (by kernel_rfl) (by kernel_rfl) (by kernel_rfl) (fun _ _ _ h => h) (Or.inl ⟨by simp [Region.wanted, yielded], fun W hW => by obtain ⟨s1, s2⟩ := hW; go_simp⟩) HS0.out ?_
          try (simp only [Act.put, List.getElem_toArray, List.getElem_cons_succ, List.getElem_cons_zero, List.setIfInBounds_toArray, List.set_cons_zero, List.set_cons_succ])
          refine wpAnyH_take (i := 41) (v := .pointer (some ⟨x1, o1 + k, none⟩)) rfl (by kernel_rfl) (by kernel_rfl) (by kernel_rfl) (fun _ _ _ h => h) (Or.inl ⟨by simp [Region.wanted, yielded], fun W hW => by obtain ⟨s1, s2⟩ := hW; go_simp⟩) HS0.out ?_
          try (simp only [Act.put, List.getElem_toArray, List.getElem_cons_succ, List.getElem_cons_zero, List.setIfInBounds_toArray, List.set_cons_zero, List.set_cons_succ])
          refine wpAnyH_take (i := 42) (v := .bool false) rfl (by kernel_rfl) (by kernel_rfl) (by kernel_rfl) (fun _ _ _ h => h) (Or.inl ⟨by simp [Region.wanted, yielded], fun W hW => by obtain ⟨s1, s2⟩ := hW; go_simp⟩) HS0.out ?_
          try (simp only [Act.put, List.getElem_toArray, List.getElem_cons_succ, List.getElem_cons_zero, List.setIfInBounds_toArray, List.set_cons_zero, List.set_cons_succ])
          refine wpAnyH_take (i := 43) (v := .bool true) rfl (by kernel_rfl) (by kernel_rfl) (by kernel_rfl) (fun _ _ _ h => h) (Or.inl ⟨by simp [Region.wanted, yielded], fun W hW => by obtain ⟨s1, s2⟩ := hW; go_simp⟩) HS0.out ?_
          try (simp only [Act.put, List.getElem_toArray, List.getElem_cons_succ, List.getElem_cons_zero, List.setIfInBounds_toArray, List.set_cons_zero, List.set_cons_succ])
          refine wpAnyH_take (i := 44) (v := .pointer (some ⟨g1, k, none⟩)) rfl (by kernel_rfl) (by kernel_rfl) (by kernel_rfl) (fun _ _ _ h => h) (Or.inl ⟨by simp [Region.wanted, yielded], fun W hW => by obtain ⟨s1, s2⟩ := hW; go_simp⟩) HS0.out ?_
          try (simp only [Act.put, List.getElem_toArray, List.getElem_cons_succ, List.getElem_cons_zero, List.setIfInBounds_toArray, List.set_cons_zero, List.set_cons_succ])
          refine wpAnyH_ready (rs := [45]) (by kernel_rfl) (by simp) ?_
          refine AllReadyH.cons (o := _) rfl (fun KK hKK => ?_) AllReadyH.nil
          have cc := HG1.out.1
          have cf := HZ1.out
          rw [if_pos (by simp [Region.wanted, yielded])]
          go_simp
          refine hKK.out _ _ (HS1.out _) (fun _ => ?_)
          clear hKK KK
          try (simp only [Act.put, List.getElem_toArray, List.getElem_cons_succ, List.getElem_cons_zero, List.setIfInBounds_toArray, List.set_cons_zero, List.set_cons_succ])
          clear cc cf
          refine wpAnyH_take (i := 46) (v := .pointer (some ⟨g2, k, none⟩)) rfl (by kernel_rfl) (by kernel_rfl) (by kernel_rfl) (fun _ _ _ h => h) (Or.inl ⟨by simp [Region.wanted, yielded], fun W hW => by obtain ⟨s1, s2⟩ := hW; go_simp⟩) (HS1.out _) ?_
          try (simp only [Act.put, List.getElem_toArray, List.getElem_cons_succ, List.getElem_cons_zero, List.setIfInBounds_toArray, List.set_cons_zero, List.set_cons_succ])
          refine wpAnyH_ready (rs := [47]) (by kernel_rfl) (by simp) ?_
          refine AllReadyH.cons (o := _) rfl (fun KK hKK => ?_) AllReadyH.nil
          have cc := (HG2.out (.bool b2)).1
          have cf := HZ2.out
          rw [if_pos (by simp [Region.wanted, yielded])]
          go_simp
          refine hKK.out _ _ (HS2.out _ _) (fun _ => ?_)
          clear hKK KK
          try (simp only [Act.put, List.getElem_toArray, List.getElem_cons_succ, List.getElem_cons_zero, List.setIfInBounds_toArray, List.set_cons_zero, List.set_cons_succ])
          clear cc cf
          refine wpAnyH_take (i := 48) (v := .pointer (some ⟨g3, k, none⟩)) rfl (by kernel_rfl) (by kernel_rfl) (by kernel_rfl) (fun _ _ _ h => h) (Or.inl ⟨by simp [Region.wanted, yielded], fun W hW => by obtain ⟨s1, s2⟩ := hW; go_simp⟩) (HS2.out _ _) ?_
          try (simp only [Act.put, List.getElem_toArray, List.getElem_cons_succ, List.getElem_cons_zero, List.setIfInBounds_toArray, List.set_cons_zero, List.set_cons_succ])
          refine wpAnyH_ready (rs := [49]) (by kernel_rfl) (by simp) ?_
          refine AllReadyH.cons (o := _) rfl (fun KK hKK => ?_) AllReadyH.nil
          have cc := (HG3.out (.bool b2) (.bool false)).1
          have cf := HZ3.out
          rw [if_pos (by simp [Region.wanted, yielded])]
          go_simp
          refine hKK.out _ _ (HS3.out _ _ _) (fun _ => ?_)
          clear hKK KK
          try (simp only [Act.put, List.getElem_toArray, List.getElem_cons_succ, List.getElem_cons_zero, List.setIfInBounds_toArray, List.set_cons_zero, List.set_cons_succ])
          clear cc cf
          refine wpAnyH_take (i := 50) (v := .pointer (some ⟨g4, k, none⟩)) rfl (by kernel_rfl) (by kernel_rfl) (by kernel_rfl) (fun _ _ _ h => h) (Or.inl ⟨by simp [Region.wanted, yielded], fun W hW => by obtain ⟨s1, s2⟩ := hW; go_simp⟩) (HS3.out _ _ _) ?_
          try (simp only [Act.put, List.getElem_toArray, List.getElem_cons_succ, List.getElem_cons_zero, List.setIfInBounds_toArray, List.set_cons_zero, List.set_cons_succ])
          refine wpAnyH_ready (rs := [51]) (by kernel_rfl) (by simp) ?_
          refine AllReadyH.cons (o := _) rfl (fun KK hKK => ?_) AllReadyH.nil
          have cc := (HG4.out (.bool b2) (.bool false) (.bool false)).1
          have cf := HZ4.out
          rw [if_pos (by simp [Region.wanted, yielded])]
          go_simp
          refine hKK.out _ _ (HS4.out _ _ _ _) (fun _ => ?_)
          clear hKK KK
          try (simp only [Act.put, List.getElem_toArray, List.getElem_cons_succ, List.getElem_cons_zero, List.setIfInBounds_toArray, List.set_cons_zero, List.set_cons_succ])
          clear cc cf
          refine wpAnyH_done (by kernel_rfl) ?_ _
          go_wp2_with fail
          go_roundw
          case rel => exact ⟨k + 1, by omega, by go_num, HNX⟩
          case measure => simp [intOf]; omega
      · obtain rfl : k = M := by omega
        have HKW := Lib.hid (HKF.out _ hI.out.kept)
        obtain ⟨⟨a1, q1⟩, ⟨a2, q2⟩, ⟨a3, q3⟩, ⟨a4, q4⟩, _⟩ := hI.out
        have HQ1 : Hid (∀ W, Kept (fun _ => False) wr W → RowG EB W (.slice (some ⟨g1, 0, none⟩) k k) a1) := Lib.hid fun W kk => q1.row.row.on kk
        have HQ2 : Hid (∀ W, Kept (fun _ => False) wr W → RowG EB W (.slice (some ⟨g2, 0, none⟩) k k) a2) := Lib.hid fun W kk => q2.row.row.on kk
        have HQ3 : Hid (∀ W, Kept (fun _ => False) wr W → RowG EB W (.slice (some ⟨g3, 0, none⟩) k k) a3) := Lib.hid fun W kk => q3.row.row.on kk
        have HQ4 : Hid (∀ W, Kept (fun _ => False) wr W → RowG EB W (.slice (some ⟨g4, 0, none⟩) k k) a4) := Lib.hid fun W kk => q4.row.row.on kk
        have HL1 : Hid (a1.length = 30001 ∧ a2.length = 30001 ∧ a3.length = 30001 ∧ a4.length = 30001) := Lib.hid ⟨q1.len.trans HM.out, q2.len.trans HM.out, q3.len.trans HM.out, q4.len.trans HM.out⟩
        have HV1 : Hid (∀ d : Nat, d ≤ 30000 → a1.getD d false = (inD t (d : Int) || inD u (d : Int))) := Lib.hid fun d hd => by rw [q1.val d (by have := HM.out; omega), HAG.out d hd, HAU.out d hd]
        have HV2 : Hid (∀ d : Nat, d ≤ 30000 → a2.getD d false = (inD t (d : Int) && inD u (d : Int))) := Lib.hid fun d hd => by rw [q2.val d (by have := HM.out; omega), HAG.out d hd, HAU.out d hd]
        have HV3 : Hid (∀ d : Nat, d ≤ 30000 → a3.getD d false = (inD t (d : Int) && !inD u (d : Int))) := Lib.hid fun d hd => by rw [q3.val d (by have := HM.out; omega), HAG.out d hd, HAU.out d hd]
        have HV4 : Hid (∀ d : Nat, d ≤ 30000 → a4.getD d false = (!inD t (d : Int))) := Lib.hid fun d hd => by rw [q4.val d (by have := HM.out; omega), HAG.out d hd]
        have HFX : Hid (f.length = 30001 ∧ g.length = 30001) := Lib.hid ⟨HFL.out.trans HM.out, HGL.out.trans HM.out⟩
        have HST : Hid (∀ W, Kept (fun _ => False) wr W → SetD W (.agg #[.slice ra n rc]) t) := Lib.hid fun W kk => HS.out W (HJ5.out.then (HKW.out.then kk))
        have HSV : Hid (∀ W, Kept (fun _ => False) wr W → SetD W (.agg #[.slice qa n2 qc]) u) := Lib.hid fun W kk => HSU.out W (HA4.out.then (HKW.out.then kk))
        have HCC : Hid (∀ W, Kept (fun _ => False) wr W → W.cell? ⟨w2.heap.size, 0, none⟩ = some (.slice ra n rc) ∧ W.cell? ⟨w4.heap.size, 0, none⟩ = some (.slice qa n2 qc)) := Lib.hid fun W kk => HC4.out W (HKW.out.then kk)
        have HFF : Hid (∀ W, Kept (fun _ => False) wr W → RowG EB W (.slice fa k fc) f) := Lib.hid fun W kk => HF.out W (HJ5.out.then (HKW.out.then kk))
        have HGG : Hid (∀ W, Kept (fun _ => False) wr W → RowG EB W (.slice ga k gc) g) := Lib.hid fun W kk => HG.out W (HA4.out.then (HKW.out.then kk))
        have HKE := Lib.hid (HK2.out.then (HJ5.out.then HKW.out))
        obtain ⟨d1, d2⟩ := HCC.out wr (Kept.refl _ _)
        clear q1 q2 q3 q4 hI HKF HKW HF HG HS HSU HC4 HJ5 HA4 HA HJ4 HK2 HI0 HBG HNE HF5 HG5 HFL HGL HM HW5 hMb hk hlt
        go_wp2_with fail
        refine (dayOr_any _ _ t u _ (HST.out _ (Kept.refl _ _)) (HSV.out _ (Kept.refl _ _))).mono ?_
        rintro e w6 ⟨v1, r1, rfl, hs1, hi1, k6⟩
        have HJ6 := Lib.hid k6
        have HI1 := Lib.hid (isD_any w6 _ _ r1 a1 hs1 (HQ1.out _ k6) HL1.out.1 (fun d hd => by rw [HV1.out d hd, hi1]; rfl))
        clear hs1 hi1 k6 d1 d2 HQ1 HV1
        go_wp2_with fail
        refine HI1.out.mono ?_
        rintro e w7 ⟨rfl, k7⟩
        have HJ7 := Lib.hid (HJ6.out.then k7)
        obtain ⟨d1, d2⟩ := HCC.out w7 HJ7.out
        clear k7 HI1 HJ6
        go_wp2_with fail
        refine (dayAnd_any _ _ t u _ (HST.out _ HJ7.out) (HSV.out _ HJ7.out)).mono ?_
        rintro e w8 ⟨v2, r2, rfl, hs2, hi2, k8⟩
        have HJ8 := Lib.hid (HJ7.out.then k8)
        have HI2 := Lib.hid (isD_any w8 _ _ r2 a2 hs2 (HQ2.out _ HJ8.out) HL1.out.2.1 (fun d hd => by rw [HV2.out d hd, hi2]; rfl))
        clear hs2 hi2 k8 d1 d2 HQ2 HV2 HJ7
        go_wp2_with fail
        refine HI2.out.mono ?_
        rintro e w9 ⟨rfl, k9⟩
        have HJ9 := Lib.hid (HJ8.out.then k9)
        obtain ⟨d1, d2⟩ := HCC.out w9 HJ9.out
        clear k9 HI2 HJ8
        go_wp2_with fail
        refine (dayMinus_any _ _ t u _ (HST.out _ HJ9.out) (HSV.out _ HJ9.out)).mono ?_
        rintro e w10 ⟨v3, r3, rfl, hs3, hi3, k10⟩
        have HJ10 := Lib.hid (HJ9.out.then k10)
        have HI3 := Lib.hid (isD_any w10 _ _ r3 a3 hs3 (HQ3.out _ HJ10.out) HL1.out.2.2.1 (fun d hd => by rw [HV3.out d hd, hi3]; rfl))
        clear hs3 hi3 k10 d1 d2 HQ3 HV3 HJ9
        go_wp2_with fail
        refine HI3.out.mono ?_
        rintro e w11 ⟨rfl, k11⟩
        have HJ11 := Lib.hid (HJ10.out.then k11)
        obtain ⟨d1, d2⟩ := HCC.out w11 HJ11.out
        clear k11 HI3 HJ10
        go_wp2_with fail
        refine (dayNot_any _ t _ (HST.out _ HJ11.out)).mono ?_
        rintro e w12 ⟨v4, r4, rfl, hs4, hi4, k12⟩
        have HJ12 := Lib.hid (HJ11.out.then k12)
        have HI4 := Lib.hid (isD_any w12 _ _ r4 a4 hs4 (HQ4.out _ HJ12.out) HL1.out.2.2.2 (fun d hd => by rw [HV4.out d hd, hi4 _ (by omega) (by omega)]))
        clear hs4 hi4 k12 d1 d2 HQ4 HV4 HJ11
        go_wp2_with fail
        refine HI4.out.mono ?_
        rintro e w13 ⟨rfl, k13⟩
        have HJ13 := Lib.hid (HJ12.out.then k13)
        obtain ⟨d1, d2⟩ := HCC.out w13 HJ13.out
        have HI5 := Lib.hid (isD_any w13 _ _ t f (HST.out _ HJ13.out) (HFF.out _ HJ13.out) HFX.out.1 HAG.out)
        clear k13 HI4 HJ12
        go_wp2_with fail
        refine HI5.out.mono ?_
        rintro e w14 ⟨rfl, k14⟩
        have HJ14 := Lib.hid (HJ13.out.then k14)
        obtain ⟨e1, e2⟩ := HCC.out w14 HJ14.out
        have HI6 := Lib.hid (isD_any w14 _ _ u g (HSV.out _ HJ14.out) (HGG.out _ HJ14.out) HFX.out.2 HAU.out)
        clear k14 HI5 HJ13 d1 d2
        go_wp2_with fail
        refine HI6.out.mono ?_
        rintro e w15 ⟨rfl, k15⟩
        have HE := Lib.hid (HKE.out.then (HJ14.out.then k15))
        clear k15 HI6 HJ14 e1 e2
        go_wp2_with fail
        go_ret
        exact ⟨rfl, HE.out⟩
end Go.Proofs.YtcipkloopiflpaaDoor
