import Derived.Test.YtjglnpijngdpkaaGreatDoorGRow
/-
  An append to a row of one's own, of elements of whatever width: as a run, and as a step of a region that draws its order.
-/
namespace Go.Proofs.YtjglnpijngdpkaaGreatDoor
open Go.RowKit
set_option linter.unusedSimpArgs false
set_option linter.unusedVariables false

/-- An append to a row of one's own: nothing else is touched. -/
theorem appendG_grown {α : Type} {E : REnc α} {P : Program} {ts te : TypeId} {zv : Value} {bytes : Nat} (hu : P.underlying ts = some (.slice te)) (hie : (P.info? te).map (fun i => (i.zero, i.size, i.bytes)) = some (some zv, E.z, bytes)) (hzc : zv.cells.size = E.z) (hby : bytes ≤ 100)
    {W : World} {B : Nat} {v : Value} {xs ys : List α} {g off cap : Nat} (h : OwnG E te B W v xs) (hy : RowG E W (.slice (some ⟨g, off, none⟩) ys.length cap) ys) (hl : xs.length + ys.length ≤ 1000000) (hy0 : 0 < ys.length) (hB : B ≤ W.heap.size) :
    ∃ g' c w', (Builtin.append_ #[ts, ts] ts #[v, .slice (some ⟨g, off, none⟩) ys.length cap]).run P W = .ok (.slice (some ⟨g', 0, none⟩) (xs ++ ys).length c) w' ∧ OwnG E te B w' (.slice (some ⟨g', 0, none⟩) (xs ++ ys).length c) (xs ++ ys) ∧ W.grownBy w' v.ownBlock ∧
      (v.ownBlock = some g' ∨ g' = W.heap.size) := by
  obtain ⟨i0, hi, hz0, hz1, hz2⟩ := info_parts hie
  have hcells : ∀ j u, (flatG E ys)[j]? = some u → W.cell? ((⟨g, off, none⟩ : Addr).add j) = some u := fun j u hu => by
    have hadd : (⟨g, off, none⟩ : Addr).add j = ⟨g, off + j, none⟩ := by unfold Addr.add; split <;> simp_all
    rw [hadd]
    exact hy.flat j u hu
  have hmul : (xs.length + ys.length) * bytes ≤ 140737488355328 := by
    have := Nat.mul_le_mul hl hby
    omega
  obtain ⟨v', w', hr, ho, hg, _, hat⟩ := run_append_own_at (P := P) W B ts ts te i0 zv E.z bytes hu hi hz0 hz1 hz2 hzc E.pos v xs.length (flatG E xs) h ⟨g, off, none⟩ ys.length cap (flatG E ys)
    (flatG_length ys) hcells (flatG_one ys) (by unfold maxLen; omega) hmul hB
  have hf : OwnG E te B w' v' (xs ++ ys) := by unfold OwnG; rw [List.length_append, flatG_append]; exact ho
  obtain ⟨a, c, rfl, _, _⟩ := hf.form
  obtain ⟨g', rfl⟩ : ∃ g', a = some ⟨g', 0, none⟩ := by
    rcases hf.2 with ⟨h, h'⟩ | ⟨g', _, _, h, _⟩
    · rw [List.length_append] at h'; omega
    · cases h; exact ⟨g', rfl⟩
  refine ⟨g', c, w', hr, hf, hg, ?_⟩
  rcases hat with h | h
  · exact Or.inl h.symm
  · exact Or.inr (by simpa [Value.ownBlock] using h)
/-- An append whose run is known, as a step of a region that draws its order. -/
theorem step_appendG_run {P : Program} {w : World} {ops : Array Oper} {o : Oper} {a : Act} {K : Act → World → Prop} {Q : Exit → Act → World → Prop} {E : Prop} (hw : Region.wanted o (yielded ops a.tmps) = true) (s x : Operand) (t t' : TypeId)
    (ho : o.op = .call { callee := .builtin .append, args := #[s, x], argTypes := #[t, t'] }) (v u : Value) (hd : a.eval s = v) (hs : a.eval x = u) {v' : Value} {w' : World}
    (hr : (Builtin.append_ #[t, t'] o.type #[v, u]).run P w = .ok v' w') (h : K (a.put o.dst v') w') :
    if Region.wanted o (yielded ops a.tmps) = true then Oper.wp P o a w K Q else E := by
  rw [if_pos hw]
  unfold Oper.wp execOp
  simp only [ho, resolve, invoke, builtin, Sem.run_bind, Sem.run_pure, Result.andThen_ok, List.map_toArray, List.map_cons, List.map_nil, hd, hs, hr]
  exact h
end Go.Proofs.YtjglnpijngdpkaaGreatDoor
