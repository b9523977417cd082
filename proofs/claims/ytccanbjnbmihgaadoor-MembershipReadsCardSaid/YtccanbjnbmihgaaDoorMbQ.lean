/-
  A book in memory: put.
-/
import Derived.Test.YtccanbjnbmihgaaDoorMbB
namespace Go.Proofs.YtccanbjnbmihgaaDoor
open Go.RowKit Go.Shelf
set_option linter.unusedVariables false
set_option linter.unusedSimpArgs false

set_option maxRecDepth 100000 in
set_option maxHeartbeats 4000000 in
theorem put_any (w : World) (bb M u : Nat) (hv : Nat → Value) (H : Nat → List Ent) (r t : Int) (h : BookAt w bb M hv H) (hM : M ≤ 100000) (hu : 1 ≤ u) (hu2 : u ≤ 256) :
    Calls Tryd.prog 53 #[.pointer (some ⟨bb, 0, none⟩), .agg #[.int .i64 (u : Int), .int .i64 r, .int .i64 t]] w fun e w' =>
      ∃ v', e = .returned (.tuple #[]) ∧ BookAt w' bb (M + 1) (upd hv u v') (upd H u (putR (H u) ⟨u, r, t⟩)) ∧ Kept (fun k => k = bb) w w' := by
  obtain ⟨a, c, hf, h1, h2⟩ := (h.row u (by omega)).form
  have hc := h.cell u (by omega)
  rw [hf] at hc
  have hl := h.len u (by omega)
  obtain ⟨P, hP⟩ : ∃ P, P = w.heap.size := ⟨_, rfl⟩
  obtain ⟨W0, hW0⟩ : ∃ W0, W0 = w.alloc (.cells #[.int .i64 (u : Int), .int .i64 r, .int .i64 t] 87) := ⟨_, rfl⟩
  have K0 : Kept (fun _ => False) w W0 := by rw [hW0]; exact Kept.alloc _ _ _
  obtain ⟨p0, p1, p2⟩ := box3c w u r t 87
  rw [← hW0, ← hP] at p0 p1 p2
  have hc0 : W0.cell? ⟨bb, u, none⟩ = some (.slice a (H u).length c) := (K0.cell (World.block_lt_of_cell? w _ hc) (fun h => h)).trans hc
  obtain ⟨l, hlH⟩ : ∃ l, l = H u := ⟨_, rfl⟩
  rw [← hlH] at hc hc0 hl hf h1
  have hrow : Ents W0 (.slice a l.length c) l := by
    have := (h.row u (by omega)).kept K0 (fun _ _ h => h)
    rwa [hf, ← hlH] at this
  have HC : Hid (∀ n, Calls Tryd.prog 50 #[.slice a l.length c] (W0.drewN n) fun e w' => ∃ v', e = .returned v' ∧ OwnE 87 (W0.drewN n).heap.size w' v' l ∧ Kept (fun _ => False) (W0.drewN n) w') :=
    Lib.hid fun n => eclone_any _ l (W0.drewN n) (hrow.kept ((Kept.refl (fun _ => False) W0).drewN n) (fun _ _ h => h)) (by omega)
  have HA : Hid (Asc l) := Lib.hid (by rw [hlH]; exact h.asc u (by omega))
  have HH := Lib.hid h; have HP := Lib.hid hP; have HW := Lib.hid hW0; have HL := Lib.hid hlH; have HF := Lib.hid hf
  clear h hc hf hlH hrow h2 hP hW0
  go_enter Tryd.func53, Tryd.ntmps53
  go_wp2_with fail
  rw [← HW.out, ← HP.out]
  have hI1 : (u : Int) < 257 := by omega
  have hI0 : (0 : Int) ≤ (u : Int) := by omega
  have hI2 : u < 257 := by omega
  go_still_tail 7, (by kernel_rfl)
  have hq0 : W0.drew.cell? ⟨bb, u, none⟩ = some (.slice a l.length c) := hc0
  have q0 : W0.drew.cell? ⟨P, 0, none⟩ = some (.int .i64 (u : Int)) := p0
  have q1 : W0.drew.cell? ⟨P, 1, none⟩ = some (.int .i64 r) := p1
  have q2 : W0.drew.cell? ⟨P, 2, none⟩ = some (.int .i64 t) := p2
  change wpList _ _ _ _ _ W0.drew
  have HC1 : Hid (Calls Tryd.prog 50 #[.slice a l.length c] W0.drew fun e w' => ∃ v', e = .returned v' ∧ OwnE 87 W0.drew.heap.size w' v' l ∧ Kept (fun _ => False) W0.drew w') := Lib.hid (HC.out 1)
  have KD : Hid (Kept (fun _ => False) w W0.drew ∧ W0.drew.heap.size = P + 1 ∧ ∃ T, W0.drew.heap[P]? = some (.cells (entC ⟨u, r, t⟩).toArray T (0, 0))) := Lib.hid ⟨K0.drew, by rw [HW.out, HP.out]; simp, ⟨87, by rw [HW.out, HP.out]; exact heap_alloc_new w _⟩⟩
  clear HC K0 hc0 p0 p1 p2
  generalize W0.drew = WD at *
  go_wp2_with (first
    | (go_at_call 50; refine HC1.out.mono ?_; rintro e W1 ⟨v1, rfl, o1, k1⟩
       have r1 : W1.cell? ⟨P, 1, none⟩ = some (.int .i64 r) := (k1.cell (World.block_lt_of_cell? WD _ q1) (fun h => h)).trans q1
       obtain ⟨a1, c1, rfl, hc11, hc12⟩ := o1.form
       have O1 := Lib.hid o1; have K1 := Lib.hid k1; have R0 := Lib.hid q0; have R2 := Lib.hid q2
       clear o1 k1 q0 q1 q2 hq0)
    | (go_at_call 47; refine (place_any W1 _ l r O1.out.ents HA.out (by omega)).mono ?_; rintro e W2 ⟨i, rfl, hp, k2⟩
       have s0 : W2.cell? ⟨P, 0, none⟩ = some (.int .i64 (u : Int)) := (k2.cell (World.block_lt_of_cell? W1 _ ((K1.out.cell (World.block_lt_of_cell? WD _ R0.out) (fun h => h)).trans R0.out)) (fun h => h)).trans ((K1.out.cell (World.block_lt_of_cell? WD _ R0.out) (fun h => h)).trans R0.out)
       have s1 : W2.cell? ⟨P, 1, none⟩ = some (.int .i64 r) := (k2.cell (World.block_lt_of_cell? W1 _ r1) (fun h => h)).trans r1
       have s2 : W2.cell? ⟨P, 2, none⟩ = some (.int .i64 t) := (k2.cell (World.block_lt_of_cell? W1 _ ((K1.out.cell (World.block_lt_of_cell? WD _ R2.out) (fun h => h)).trans R2.out)) (fun h => h)).trans ((K1.out.cell (World.block_lt_of_cell? WD _ R2.out) (fun h => h)).trans R2.out)
       have HPl := Lib.hid hp; have K2 := Lib.hid k2; have O2 := Lib.hid (O1.out.kept k2 (fun _ _ h => h)); have HFo := Lib.hid (rfl : foundAt l r i = foundAt l r i)
       obtain ⟨fd, hfd⟩ : ∃ fd, fd = foundAt l r i := ⟨_, rfl⟩
       rw [← hfd]
       have HFd := Lib.hid hfd
       clear hp k2 r1 hfd
       cases fd
       all_goals (try (
         have hif := found_lt HFd.out
         obtain ⟨g1, y0, y1, y2, rfl, hg1, hg1s, z0, z1, z2, f0, f1, f2⟩ := OwnE.slot O2.out rfl hif)))
    | (go_at_call 84; refine (insert_any _ _ l ⟨u, r, t⟩ WD.heap.size W2.heap.size i (World.ownsRow.alloc O2.out _) (by omega) HPl.out.1 (by have h1 := K1.out.size; have h2 := K2.out.size; simp; omega) (fun k hk e => by have := (World.ownsRow.lt O2.out k hk).2; omega) ⟨_, heap_alloc_new W2 _⟩).mono ?_; rintro e W3 ⟨v3, rfl, o3, k3⟩
       have hlen3 : (l.take i ++ [(⟨u, r, t⟩ : Ent)] ++ l.drop i).length = l.length + 1 := by
         have := HPl.out.1
         simp only [List.length_append, List.length_take, List.length_drop, List.length_singleton]; omega
       obtain ⟨L3, hL3⟩ : ∃ L3, L3 = l.take i ++ [(⟨u, r, t⟩ : Ent)] ++ l.drop i := ⟨_, rfl⟩
       rw [← hL3] at o3 hlen3
       obtain ⟨a3, c3, rfl, hc31, hc32⟩ := o3.form
       obtain ⟨m3, hm3⟩ : ∃ m3, L3.length = m3 := ⟨_, rfl⟩
       rw [hm3] at o3 hlen3 hc31 ⊢
       have hi3 : i < m3 := by have := HPl.out.1; omega
       obtain ⟨g1, y0, y1, y2, rfl, hg1, hg1s, z0, z1, z2, f0, f1, f2⟩ := OwnE.slot o3 hm3 hi3
       have kq : Kept (fun k => WD.heap.size ≤ k) W2 W3 := (Kept.alloc (fun k => WD.heap.size ≤ k) W2 _).trans k3 (fun _ _ h => h) (fun k _ hk => (World.ownsRow.lt O2.out k hk).1)
       have hPD : ¬ WD.heap.size ≤ P := by have := KD.out.2.1; omega
       replace s0 := (kq.cell (World.block_lt_of_cell? W2 _ s0) hPD).trans s0
       replace s1 := (kq.cell (World.block_lt_of_cell? W2 _ s1) hPD).trans s1
       replace s2 := (kq.cell (World.block_lt_of_cell? W2 _ s2) hPD).trans s2
       have O3 := Lib.hid o3; have K3 := Lib.hid kq; have HL3 := Lib.hid hL3; have HM3 := Lib.hid hm3
       clear o3 k3 hlen3 kq hL3 hm3))
  · have hpl := HPl.out
    have hsn := set_new (x := ⟨u, r, t⟩) HA.out hpl HFd.out
    have K03 : Kept (fun _ => False) w W3 := ((KD.out.1.then K1.out).then K2.out).trans K3.out (fun _ _ h => h) (fun k hk h => by have := KD.out.2.1; have := HP.out; omega)
    have hds := KD.out.2.1
    have hPw := HP.out
    have ofin := OwnE.put O3.out HM3.out.symm hi3 (x := ⟨u, r, t⟩)
    rw [HL3.out] at ofin
    have K04 : Kept (fun _ => False) w (W3.setCells g1 (i * 3) (entC ⟨u, r, t⟩)) := K03.trans (setCells_kept g1 _ _ _) (fun _ _ h => h) (fun k hk h => by omega)
    have hfin := book_fin HH.out K04 ofin.ents (fun k hk => by have : g1 = k := Option.some.inj hk; omega) (by rw [hsn.1]; exact asc_putR HA.out) (by have := hsn.2; omega) (by rw [hsn.1]; exact user_putR (by rw [HL.out]; exact HH.out.user u hI2) rfl) hI2
    have hbw : bb < w.heap.size := World.block_lt_of_cell? w _ (HH.out.cell u hI2)
    have b5 : (W3.setCells g1 (i * 3) (entC ⟨u, r, t⟩)).cell? ⟨bb, u, none⟩ = some (hv u) := (K04.cell (p := ⟨bb, u, none⟩) hbw (fun h => h)).trans (HH.out.cell u hI2)
    have f5 : (W3.setCells g1 (i * 3) (entC ⟨u, r, t⟩)).frozen? ⟨bb, u, none⟩ = false := (K04.frozen (p := ⟨bb, u, none⟩) hbw (fun h => h)).trans (HH.out.free u)
    have s5 : (W3.setCells g1 (i * 3) (entC ⟨u, r, t⟩)).cell? ⟨P, 0, none⟩ = some (.int .i64 (u : Int)) := ((setCells_kept g1 (entC ⟨u, r, t⟩) (i * 3) W3).cell (p := ⟨P, 0, none⟩) (World.block_lt_of_cell? W3 _ s0) (fun h => by have h : P = g1 := h; omega)).trans s0
    rw [hsn.1] at hfin
    have HE := Lib.hid hfin
    rw [show ((W3.setCell ⟨g1, i * 3, none⟩ (.int .i64 (u : Int))).setCell ⟨g1, i * 3 + 1, none⟩ (.int .i64 r)).setCell ⟨g1, i * 3 + 2, none⟩ (.int .i64 t) = W3.setCells g1 (i * 3) (entC ⟨u, r, t⟩) from rfl]
    clear hfin hsn hpl K03 K04 ofin s0 s1 s2 z0 z1 z2 f0 f1 f2 hds hPw hPD
    generalize W3.setCells g1 (i * 3) (entC ⟨u, r, t⟩) = W4 at *
    go_still_tail 7, (by kernel_rfl)
    replace b5 : W4.drew.cell? ⟨bb, u, none⟩ = some (hv u) := b5
    replace f5 : W4.drew.frozen? ⟨bb, u, none⟩ = false := f5
    change wpList _ _ _ _ _ W4.drew
    generalize W4.drew = W5 at *
    go_wp2_with fail
    go_end0
    have hE := HE.out
    rw [show putR l ⟨(u : Int), r, t⟩ = putR (H u) ⟨(u : Int), r, t⟩ by rw [HL.out]] at hE
    exact ⟨_, rfl, hE⟩
  · have hpl := HPl.out
    have hsn := set_found (x := ⟨u, r, t⟩) HA.out hpl HFd.out
    have K02 : Kept (fun _ => False) w W2 := ((KD.out.1.then K1.out).then K2.out)
    have hds := KD.out.2.1
    have hPw := HP.out
    have ofin := OwnE.put O2.out rfl hif (x := ⟨u, r, t⟩)
    have K04 : Kept (fun _ => False) w (W2.setCells g1 (i * 3) (entC ⟨u, r, t⟩)) := K02.trans (setCells_kept g1 _ _ _) (fun _ _ h => h) (fun k hk h => by omega)
    have hfin := book_fin HH.out K04 ofin.ents (fun k hk => by have : g1 = k := Option.some.inj hk; omega) (by rw [hsn.1]; exact asc_putR HA.out) (by have := hsn.2; omega) (by rw [hsn.1]; exact user_putR (by rw [HL.out]; exact HH.out.user u hI2) rfl) hI2
    have hbw : bb < w.heap.size := World.block_lt_of_cell? w _ (HH.out.cell u hI2)
    have b5 : (W2.setCells g1 (i * 3) (entC ⟨u, r, t⟩)).cell? ⟨bb, u, none⟩ = some (hv u) := (K04.cell (p := ⟨bb, u, none⟩) hbw (fun h => h)).trans (HH.out.cell u hI2)
    have f5 : (W2.setCells g1 (i * 3) (entC ⟨u, r, t⟩)).frozen? ⟨bb, u, none⟩ = false := (K04.frozen (p := ⟨bb, u, none⟩) hbw (fun h => h)).trans (HH.out.free u)
    have s5 : (W2.setCells g1 (i * 3) (entC ⟨u, r, t⟩)).cell? ⟨P, 0, none⟩ = some (.int .i64 (u : Int)) := ((setCells_kept g1 (entC ⟨u, r, t⟩) (i * 3) W2).cell (p := ⟨P, 0, none⟩) (World.block_lt_of_cell? W2 _ s0) (fun h => by have h : P = g1 := h; omega)).trans s0
    rw [hsn.1] at hfin
    have HE := Lib.hid hfin
    rw [show ((W2.setCell ⟨g1, i * 3, none⟩ (.int .i64 (u : Int))).setCell ⟨g1, i * 3 + 1, none⟩ (.int .i64 r)).setCell ⟨g1, i * 3 + 2, none⟩ (.int .i64 t) = W2.setCells g1 (i * 3) (entC ⟨u, r, t⟩) from rfl]
    clear hfin hsn hpl K02 K04 ofin s0 s1 s2 z0 z1 z2 f0 f1 f2 hds hPw
    generalize W2.setCells g1 (i * 3) (entC ⟨u, r, t⟩) = W4 at *
    go_still_tail 7, (by kernel_rfl)
    replace b5 : W4.drew.cell? ⟨bb, u, none⟩ = some (hv u) := b5
    replace f5 : W4.drew.frozen? ⟨bb, u, none⟩ = false := f5
    change wpList _ _ _ _ _ W4.drew
    generalize W4.drew = W5 at *
    go_wp2_with fail
    go_end0
    have hE := HE.out
    rw [show putR l ⟨(u : Int), r, t⟩ = putR (H u) ⟨(u : Int), r, t⟩ by rw [HL.out]] at hE
    exact ⟨_, rfl, hE⟩
end Go.Proofs.YtccanbjnbmihgaaDoor
