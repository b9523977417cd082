/-
  As AppR, without crc (never beside AppR).
-/
import Derived.Test.YteaagllpkcpedaaDoorMake
import Derived.Maps.AppendAt
import Derived.Laws.AppendOwnNone
import Derived.Deep.AppendLies
namespace Go.Proofs.YteaagllpkcpedaaDoor
open Go.RowKit

theorem Reads.formR8 {w : World} {p : Value} {xs : List Nat} (hp : Reads w p xs) : ∃ a c, p = .slice a xs.length c := by
  rcases hp with ⟨rfl, rfl⟩ | ⟨g, off, cap, rfl, _⟩
  · exact ⟨_, _, rfl⟩
  · exact ⟨_, _, rfl⟩
theorem bv_at8 (xs : List Nat) (i : Nat) (h : i < xs.length) : (bv xs)[i]? = some (.int .u8 (xs.getD i 0 : Nat)) := by simp [bv, List.getD, h]
theorem info_u8c : (Tryd.prog.info? 5).map (fun i => (i.zero, i.size, i.bytes)) = some (some (.int .u8 0), 1, 1) := by kernel_rfl

/-- 'append(v, y...)' where v is a row of the call's own and y reads as bytes: the row is the old one or a new one. -/
theorem append_reads_at {W : World} {B : Nat} {v y : Value} {xs ys : List Nat} (h : Fresh W B v xs) (hy : Reads W y ys) (hl : xs.length + ys.length ≤ 1000000) (hB : B ≤ W.heap.size) :
    ∃ a c w', (Builtin.append_ #[49, 49] 49 #[v, y]).run Tryd.prog W = .ok (.slice a (xs ++ ys).length c) w' ∧ Fresh w' B (.slice a (xs ++ ys).length c) (xs ++ ys) ∧ Kept (blk v) W w' ∧
      ((Value.slice a (xs ++ ys).length c).ownBlock = v.ownBlock ∨ ∀ k, (Value.slice a (xs ++ ys).length c).ownBlock = some k → W.heap.size ≤ k) := by
  obtain ⟨i0, hi, hz0, hz1, hz2⟩ := info_parts info_u8c
  have key : ∃ v' w', (Builtin.append_ #[49, 49] 49 #[v, y]).run Tryd.prog W = .ok v' w' ∧ Fresh w' B v' (xs ++ ys) ∧ Kept (blk v) W w' ∧ (v'.ownBlock = v.ownBlock ∨ ∀ k, v'.ownBlock = some k → W.heap.size ≤ k) := by
    rcases hy with ⟨rfl, rfl⟩ | ⟨g, off, cap, rfl, h1, h2, h3, h4⟩
    · exact ⟨v, W, run_append_owned_none W B 49 49 5 i0 1 Tryd.underlying49 hi v _ _ h.own, by rw [List.append_nil]; exact h, Kept.refl _ _, Or.inl rfl⟩
    · have hcells : ∀ j u, (bv ys)[j]? = some u → W.cell? ((⟨g, off, none⟩ : Addr).add j) = some u := fun j u hu => by
        have hadd : (⟨g, off, none⟩ : Addr).add j = ⟨g, off + j, none⟩ := by unfold Addr.add; split <;> simp_all
        have hj : j < ys.length := by
          have := (List.getElem?_eq_some_iff.1 hu).1
          rwa [bv_length] at this
        rw [hadd, h4 j hj, ← bv_at8 ys j hj]; exact hu
      obtain ⟨v', w', hr, ho, hg, _, hat⟩ := run_append_own_at (P := Tryd.prog) W B 49 49 5 i0 _ 1 1 Tryd.underlying49 hi hz0 hz1 hz2 rfl (by omega) v xs.length (bv xs) h.own ⟨g, off, none⟩ ys.length cap (bv ys)
        (by rw [bv_length, Nat.mul_one]) hcells (bv_oneCell _) (by unfold maxLen; omega) (by omega) hB
      exact ⟨v', w', hr, ⟨by rw [List.length_append, bv_append]; exact ho, fun k hk => (ho.lt k hk).1⟩, Kept.ofGrown (S := blk v) hg fun k e => e, hat.imp id fun e k hk => by rw [e] at hk; injection hk with hk; omega⟩
  obtain ⟨v', w', hr, hf, hk, hat⟩ := key
  obtain ⟨a, c, rfl⟩ := hf.reads.formR8
  exact ⟨a, c, w', hr, hf, hk, hat⟩

/-- 'append(v, y...)' where v is a row of the call's own and y reads as bytes. -/
theorem append_reads_run {W : World} {B : Nat} {v y : Value} {xs ys : List Nat} (h : Fresh W B v xs) (hy : Reads W y ys) (hl : xs.length + ys.length ≤ 1000000) (hB : B ≤ W.heap.size) :
    ∃ a c w', (Builtin.append_ #[49, 49] 49 #[v, y]).run Tryd.prog W = .ok (.slice a (xs ++ ys).length c) w' ∧ Fresh w' B (.slice a (xs ++ ys).length c) (xs ++ ys) ∧ Kept (blk v) W w' := by
  obtain ⟨a, c, w', h1, h2, h3, _⟩ := append_reads_at h hy hl hB
  exact ⟨a, c, w', h1, h2, h3⟩

/-- An append whose run is known, asked for or not (a guard that holds). -/
theorem wpList_append_run {P : Program} {w : World} {ops : Array Oper} {rest : List Oper} {o : Oper} {a : Act} {Q : Exit → Act → World → Prop} (hw : Region.wanted o (yielded ops a.tmps) = true) (s x : Operand) (t t' : TypeId)
    (ho : o.op = .call { callee := .builtin .append, args := #[s, x], argTypes := #[t, t'] }) (v u : Value) (hd : a.eval s = v) (hs : a.eval x = u) {v' : Value} {w' : World}
    (hr : (Builtin.append_ #[t, t'] o.type #[v, u]).run P w = .ok v' w') (h : wpList P ops Q rest (a.put o.dst v') w') : wpList P ops Q (o :: rest) a w := by
  refine wpList_step fun K hK => ?_
  rw [if_pos hw]
  unfold Oper.wp execOp
  simp only [ho, resolve, invoke, builtin, Sem.run_bind, Sem.run_pure, Result.andThen_ok, List.map_toArray, List.map_cons, List.map_nil, hd, hs, hr]
  exact hK _ _ h

end Go.Proofs.YteaagllpkcpedaaDoor
