/-
  slices.Delete of one entry of a row of one's own; clear of entries.
-/
import Derived.Test.YtccanbjnbmihgaaDoorMbL
import Derived.Test.YtccanbjnbmihgaaDoorMbU
namespace Go.Proofs.YtccanbjnbmihgaaDoor
open Go.RowKit Go.Shelf
set_option linter.unusedVariables false
set_option linter.unusedSimpArgs false

section
variable {P : Program}
/-- 'clear(s)' where an element takes several cells. -/
theorem run_clear_wide (w : World) (t e ty : TypeId) (z : Value) (ht : P.underlying t = some (.slice e)) (hv : ∀ w, (zeroValue e).run P w = .ok z w) (b o n c : Nat) (hn : 0 < n) (zs : List Value) (hz : (Builtin.zeroCells z.cells n).toList = zs)
    (h1 : ∀ v ∈ zs, v.oneCell' = true) (hc : ∀ j, j < zs.length → (w.cell? ⟨b, o + j, none⟩).isSome = true) (hf : ∀ j, j < zs.length → w.frozen? ⟨b, o + j, none⟩ = false) :
    (Builtin.clear_ #[t] ty #[.slice (some ⟨b, o, none⟩) n c]).run P w = .ok (.tuple #[]) (w.setCells b o zs) := by
  have hst := run_storeCells_cells (P := P) b o zs 0 w (by simpa using hc) (by simpa using hf) h1
  simp only [Nat.add_zero] at hst
  obtain ⟨m, rfl⟩ : ∃ m, n = m + 1 := ⟨n - 1, by omega⟩
  simp [Builtin.clear_, run_underlying ht, hv, hz, hst]
theorem wpList_clear_run (w : World) {ops : Array Oper} {rest : List Oper} {o : Oper} {a : Act} {Q : Exit → Act → World → Prop} (hgd : o.guard = none) (x : Operand) (t : TypeId)
    (ho : o.op = .call { callee := .builtin .clear, args := #[x], argTypes := #[t] }) (v : Value) (hx : a.eval x = v) {v' : Value} {w' : World}
    (hr : (Builtin.clear_ #[t] o.type #[v]).run P w = .ok v' w') (h : wpList P ops Q rest (a.put o.dst v') w') : wpList P ops Q (o :: rest) a w := by
  refine wpList_plain hgd fun K hK => ?_
  unfold Oper.wp execOp
  simp only [ho, resolve, invoke, builtin, Sem.run_bind, Sem.run_pure, Result.andThen_ok, List.map_toArray, List.map_cons, List.map_nil, hx, hr]
  exact hK _ _ h
/-- An append whose run is known, as a step of a region that draws. -/
theorem step_append_runI {ops : Array Oper} {o : Oper} {a : Act} {w : World} {K : Act → World → Prop} {Q : Exit → Act → World → Prop} {E : Prop}
    (hg : o.guard = none) (d x : Operand) (dT sT : TypeId) (hop : o.op = Op.call { callee := Callee.builtin Builtin.append, args := #[d, x], argTypes := #[dT, sT] })
    (v u : Value) (hd : a.eval d = v) (hx : a.eval x = u) {v' : Value} {w' : World} (hr : (Builtin.append_ #[dT, sT] o.type #[v, u]).run P w = .ok v' w') (hK : K (a.put o.dst v') w') :
    if Region.wanted o (yielded ops a.tmps) = true then Oper.wp P o a w K Q else E := by
  have hw : Region.wanted o (yielded ops a.tmps) = true := by simp [Region.wanted, hg]
  rw [if_pos hw]
  unfold Oper.wp
  simp [execOp, hop, resolve, invoke, builtin, hd, hx, hr, Result.andThen]
  exact hK
end

def zeroE (n : Nat) : List Value := (Builtin.zeroCells (Value.agg #[.int .i64 0, .int .i64 0, .int .i64 0]).cells n).toList
theorem zeroE_length (n : Nat) : (zeroE n).length = n * 3 := by
  unfold zeroE
  rw [Array.length_toList, size_zeroCells]
  rfl
theorem zeroE_one (n : Nat) : ∀ v ∈ zeroE n, v.oneCell' = true := fun v hv => by
  unfold zeroE at hv
  simp only [Builtin.zeroCells, Array.toList_map, List.mem_map] at hv
  obtain ⟨i, _, rfl⟩ := hv
  have h3 : i % 3 = 0 ∨ i % 3 = 1 ∨ i % 3 = 2 := by omega
  have e : (Value.agg #[.int .i64 0, .int .i64 0, .int .i64 0]).cells.size = 3 := rfl
  rw [e]
  rcases h3 with h | h | h <;> rw [h] <;> rfl
theorem zero_ent (W : World) : (zeroValue 87).run Tryd.prog W = .ok (.agg #[.int .i64 0, .int .i64 0, .int .i64 0]) W := by kernel_rfl

/-- What a row of one's own gives: its cells up to the capacity. -/
theorem OwnE.cellsC {T : TypeId} {B g n c : Nat} {w : World} {l : List Ent} (h : OwnE T B w (.slice (some ⟨g, 0, none⟩) n c) l) : (∀ j, j < c * 3 → (w.cell? ⟨g, j, none⟩).isSome = true) ∧ (∀ j, w.frozen? ⟨g, j, none⟩ = false) ∧ l.length ≤ c ∧ c ≤ maxLen ∧ B ≤ g ∧ g < w.heap.size := by
  have hlt := World.ownsRow.lt h g rfl
  rcases h.2 with ⟨h', _⟩ | ⟨g', cap', cur, h', hb, hg, hnc, hcm, hcs, htake⟩
  · cases h'
  · cases h'
    exact ⟨fun j hj => by rw [cell_of_row w g j cur _ (0, 0) hg]; simp; omega, fun j => frozen_of_row w g j cur _ hg, hnc, hcm, hlt.1, hlt.2⟩
/-- The first entries of a row of one's own; what lies behind may be written. -/
theorem OwnE.cutTo {T : TypeId} {B g n c m : Nat} {w : World} {l : List Ent} (h : OwnE T B w (.slice (some ⟨g, 0, none⟩) n c) l) (hn : n = l.length) (hm : m ≤ n) (zs : List Value) (hz : m * 3 + zs.length ≤ c * 3) :
    OwnE T B (w.setCells g (m * 3) zs) (.slice (some ⟨g, 0, none⟩) m c) (l.take m) := by
  obtain ⟨_, _, h3, _⟩ := h.cellsC
  have hl : (l.take m).length = m := by rw [List.length_take]; omega
  unfold OwnE at h ⊢
  rw [hl]
  rw [← hn] at h
  have t1 := (flatE_cut l m (by omega)).1
  have hX : (flatE l).length = n * 3 := by rw [flatE_length, hn]
  refine row_set h (m * 3) (by omega) hz (by rw [flatE_length, hl]) (fun cur hc ht j hj => ?_)
  rw [if_neg (by omega), t1, List.getElem?_take_of_lt hj]
  exact (take_getElem? ht (by omega)).symm

theorem grown_kept {a b : World} {g : Nat} (h : a.grownBy b (some g)) : Kept (fun k => k = g) a b := Kept.ofGrown h (fun k e => by injection e with e; exact e.symm)

set_option maxRecDepth 100000 in
set_option maxHeartbeats 4000000 in
theorem delete_any (w : World) (v : Value) (l : List Ent) (B i : Nat) (hown : OwnE 87 B w v l) (hl : l.length ≤ 1000000) (hi : i < l.length) :
    Calls Tryd.prog 49 #[v, .int .i64 (i : Int), .int .i64 ((i : Int) + 1)] w fun e w' =>
      ∃ v', e = .returned v' ∧ OwnE 87 B w' v' (l.take i ++ l.drop (i + 1)) ∧ Kept (blk v) w w' := by
  have h0 := hown
  rcases hown.2 with ⟨rfl, h2⟩ | ⟨g, c, cur, rfl, hb, hg, h1, h2, _⟩
  · omega
  clear hb hg h1 h2 hown
  obtain ⟨hcs, hfz, hnc, hcm, hBg, hgw⟩ := h0.cellsC
  obtain ⟨n, hn⟩ : ∃ n, n = l.length := ⟨_, rfl⟩
  rw [← hn] at hnc hl hi h0 ⊢
  obtain ⟨q, hq⟩ : ∃ q, n = q + 1 := ⟨n - 1, by omega⟩
  have hd0 : OwnE 87 B w.drew (.slice (some ⟨g, 0, none⟩) n c) l := h0
  have hcut : OwnE 87 B w.drew (.slice (some ⟨g, 0, none⟩) i c) (l.take i) := by
    have := hd0.cutTo hn (m := i) (by omega) [] (by simp; omega)
    exact this
  obtain ⟨i0, hi0, hz0, hz1, hz2⟩ := info_parts info_ent
  have hli : (l.take i).length = i := by rw [List.length_take]; omega
  have hld : (l.drop (i + 1)).length = n - (i + 1) := by rw [List.length_drop, hn]
  have hsum : i + (n - (i + 1)) = q := by omega
  have t2 := (flatE_cut l (i + 1) (by omega)).2
  unfold OwnE at hcut
  rw [hli] at hcut
  have hnews : ∀ (ao : Addr), (ao = ⟨g, (i + 1) * 3, none⟩ ∨ n = i + 1) → ∀ j u, (flatE (l.drop (i + 1)))[j]? = some u → w.drew.cell? (ao.add j) = some u := fun ao hao j u hu => by
    have hj : j < (n - (i + 1)) * 3 := by
      have := (List.getElem?_eq_some_iff.1 hu).1
      rwa [flatE_length, hld] at this
    rcases hao with rfl | h
    · rw [Addr.add_lit]
      rw [t2, List.getElem?_drop] at hu
      have h9 := h0
      unfold OwnE at h9
      rw [← hn] at h9
      exact (World.ownsRow.cellAt h9 ((i + 1) * 3 + j) (by omega)).trans hu
    · omega
  have happ : ∀ (ao : Addr) (sc : Nat), (ao = ⟨g, (i + 1) * 3, none⟩ ∨ n = i + 1) → ∀ ty, ∃ w1, (Builtin.append_ #[85, 85] ty #[.slice (some ⟨g, 0, none⟩) i c, .slice (some ao) (n - (i + 1)) sc]).run Tryd.prog w.drew = .ok (.slice (some ⟨g, 0, none⟩) q c) w1 ∧
      OwnE 87 B w1 (.slice (some ⟨g, 0, none⟩) q c) (l.take i ++ l.drop (i + 1)) ∧ Kept (fun k => k = g) w w1 := fun ao sc hao ty => by
    obtain ⟨w1, r1, r2, r3⟩ := run_append_fits (P := Tryd.prog) w.drew B 85 ty 87 i0 3 Tryd.underlying85 hi0 hz1 g i c (flatE (l.take i)) hcut ao (n - (i + 1)) sc (flatE (l.drop (i + 1))) (by rw [flatE_length, hld]) (hnews ao hao) (flatE_one _) (by omega)
    rw [hsum] at r1 r2
    refine ⟨w1, r1, ?_, (Kept.refl (fun k => k = g) w).drew.trans (grown_kept r3) (fun _ _ h => h) (fun _ _ h => h)⟩
    unfold OwnE
    rw [flatE_append, List.length_append, hli, hld, hsum]
    exact r2
  have hres : (l.take i ++ l.drop (i + 1)).length = q := by rw [List.length_append, hli, hld, hsum]
  have mixed : Tryd.prog.follows .mixedOrders = true := by kernel_rfl
  have hfin : ∀ w1, OwnE 87 B w1 (.slice (some ⟨g, 0, none⟩) q c) (l.take i ++ l.drop (i + 1)) → (∀ ty sc, (Builtin.clear_ #[85] ty #[.slice (some ⟨g, q * 3, none⟩) 1 sc]).run Tryd.prog w1 = .ok (.tuple #[]) (w1.setCells g (q * 3) (zeroE 1))) ∧
      OwnE 87 B (w1.setCells g (q * 3) (zeroE 1)) (.slice (some ⟨g, 0, none⟩) q c) (l.take i ++ l.drop (i + 1)) := fun w1 ho => by
    obtain ⟨c1, c2, _⟩ := ho.cellsC
    refine ⟨fun ty sc => run_clear_wide w1 _ 87 ty _ Tryd.underlying85 zero_ent g (q * 3) 1 sc (by omega) (zeroE 1) rfl (zeroE_one 1) (fun j hj => c1 _ (by rw [zeroE_length] at hj; omega)) (fun j hj => c2 _), ?_⟩
    have := ho.cutTo hres.symm (m := q) (Nat.le_refl _) (zeroE 1) (by rw [zeroE_length]; omega)
    rwa [List.take_of_length_le (by rw [hres]; exact Nat.le_refl _)] at this
  have HAP := Lib.hid happ; have HFI := Lib.hid hfin
  clear happ hfin hnews hcut hd0 h0 hcs hfz t2 hld hli hres hsum
  unfold maxLen at hcm
  have HN := Lib.hid hn
  clear hn
  subst hq
  have l1 : (i : Int) < ((q + 1 : Nat) : Int) := by omega
  have l2 : (0 : Int) ≤ (i : Int) + 1 := by omega
  have l3 : ((i : Int) + 1).toNat = i + 1 := by omega
  have l4 : (i : Int) + 1 ≤ ((q + 1 : Nat) : Int) := by omega
  have l5 : ¬ ((i : Int) = (i : Int) + 1) := by omega
  have l6 : ¬ (c = i) := by omega
  have l7 : ¬ (c = q) := by omega
  have l8 : q + 1 - q = 1 := by omega
  have l9 : i ≤ c := by omega
  have l10 : q ≤ c := by omega
  have l11 : (i : Int) ≤ (i : Int) + 1 := by omega
  have l12 : i ≤ q := by omega
  by_cases hce : c = i + 1
  · subst hce
    obtain ⟨w1, r1, r2, r3⟩ := HAP.out ⟨g, 0, none⟩ 0 (Or.inr (by omega)) 85
    rw [Nat.add_sub_add_right, show q - i = 0 by omega] at r1
    obtain ⟨f1, f2⟩ := HFI.out w1 r2
    have HR := Lib.hid f2
    have HK : Hid (Kept (fun k => k = g) w (w1.setCells g (q * 3) (zeroE 1))) := Lib.hid (r3.trans (setCells_kept g _ _ _) (fun _ _ h => h) (fun _ _ h => h))
    clear HAP HFI r2 r3 f2
    go_enter Tryd.func49, Tryd.ntmps49
    go_wp2_with fail
    go_region_law_o (refine step_append_runI rfl _ _ 85 85 rfl _ _ (by simp [Act.eval, Act.put]) (by simp [Act.eval, Act.put]) r1 ?_)
    go_wp2_with (at_builtin; refine wpList_clear_run _ rfl _ _ rfl _ rfl (f1 _ _) ?_)
    go_ret
    exact ⟨_, rfl, HR.out, HK.out.mono fun j _ hj => by show _ = _; rw [hj]; rfl⟩
  · obtain ⟨w1, r1, r2, r3⟩ := HAP.out ⟨g, (i + 1) * 3, none⟩ (c - (i + 1)) (Or.inl rfl) 85
    rw [Nat.add_sub_add_right] at r1
    obtain ⟨f1, f2⟩ := HFI.out w1 r2
    have HR := Lib.hid f2
    have HK : Hid (Kept (fun k => k = g) w (w1.setCells g (q * 3) (zeroE 1))) := Lib.hid (r3.trans (setCells_kept g _ _ _) (fun _ _ h => h) (fun _ _ h => h))
    clear HAP HFI r2 r3 f2
    go_enter Tryd.func49, Tryd.ntmps49
    go_wp2_with fail
    go_region_law_o (refine step_append_runI rfl _ _ 85 85 rfl _ _ (by simp [Act.eval, Act.put]) (by simp [Act.eval, Act.put]) r1 ?_)
    go_wp2_with (at_builtin; refine wpList_clear_run _ rfl _ _ rfl _ rfl (f1 _ _) ?_)
    go_ret
    exact ⟨_, rfl, HR.out, HK.out.mono fun j _ hj => by show _ = _; rw [hj]; rfl⟩
end Go.Proofs.YtccanbjnbmihgaaDoor
