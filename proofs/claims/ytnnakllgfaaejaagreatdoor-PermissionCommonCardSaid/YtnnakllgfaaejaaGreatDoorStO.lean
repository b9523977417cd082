/-
  Rows of strings of the call's own: append.
-/
import Derived.Test.YtnnakllgfaaejaaGreatDoorNamV
import Derived.Maps.AppendAt
import Derived.Laws.AppendOwnNone
import Derived.Deep.AppendLies
namespace Go.Proofs.YtnnakllgfaaejaaGreatDoor
open Go.RowKit

theorem info_strS : (Tryz.prog.info? 9).map (fun i => (i.zero, i.size, i.bytes)) = some (some (.string ⟨#[]⟩), 1, 16) := by kernel_rfl
def sv (xs : List ByteArray) : List Value := xs.map Value.string
theorem sv_length (xs : List ByteArray) : (sv xs).length = xs.length := by simp [sv]
/-- A row of strings of the call's own. -/
structure OwnS (W : World) (B : Nat) (v : Value) (xs : List ByteArray) : Prop where
  own : W.ownsRow B 9 1 v xs.length (sv xs)
theorem Strs.ofOwn {W : World} {B : Nat} {v : Value} {xs : List ByteArray} (h : OwnS W B v xs) : Strs W v xs := by
  have hcell := fun g (hg : v.ownBlock = some g) => h.own.cells hg
  rcases h.own.2 with ⟨rfl, h0⟩ | ⟨g, cap, cur, rfl, hb, hg, h1, h2, h3, h4⟩
  · exact Or.inl ⟨rfl, List.eq_nil_of_length_eq_zero h0⟩
  · refine Or.inr ⟨g, 0, cap, rfl, h1, h2, (Array.getElem?_eq_some_iff.1 hg).1, fun i hi => ?_⟩
    rw [Nat.zero_add, h.own.cellAt i (by omega)]
    simp [sv, List.getD, hi]
theorem OwnS.lt {W : World} {B : Nat} {v : Value} {xs : List ByteArray} (h : OwnS W B v xs) : ∀ k, v.ownBlock = some k → B ≤ k := fun k hk => (h.own.lt k hk).1
theorem OwnS.bound {W : World} {B : Nat} {v : Value} {xs : List ByteArray} (h : OwnS W B v xs) : ∀ k, v.ownBlock = some k → B ≤ k ∧ k < W.heap.size := fun k hk => h.own.lt k hk
theorem OwnS.nil (W : World) (B : Nat) : OwnS W B (.slice none 0 0) [] := ⟨World.ownsRow_nil _ _ _ _⟩
theorem OwnS.kept {S : Nat → Prop} {a b : World} {B : Nat} {v : Value} {xs : List ByteArray} (h : OwnS a B v xs) (hk : Kept S a b) (hn : ∀ k, v.ownBlock = some k → ¬ S k) : OwnS b B v xs := ⟨hk.owns h.own hn⟩
theorem OwnS.low {W : World} {B B' : Nat} {v : Value} {xs : List ByteArray} (h : OwnS W B v xs) (hB : B' ≤ B) : OwnS W B' v xs := by
  refine ⟨⟨h.own.1, ?_⟩⟩
  rcases h.own.2 with e | ⟨g, cap, cur, e, hb, r⟩
  · exact Or.inl e
  · exact Or.inr ⟨g, cap, cur, e, Nat.le_trans hB hb, r⟩
theorem OwnS.alloc {W : World} {B : Nat} {v : Value} {xs : List ByteArray} (h : OwnS W B v xs) (o : Obj) : OwnS (W.alloc o) B v xs := ⟨h.own.alloc _⟩
theorem owns_newS (w : World) : OwnS (w.alloc (.cells #[] 9)) w.heap.size (.slice (some ⟨w.heap.size, 0, none⟩) 0 0) [] :=
  ⟨by simp [sv], Or.inr ⟨w.heap.size, 0, #[], rfl, Nat.le_refl _, heap_alloc_new w _, Nat.le_refl _, Nat.zero_le _, by simp, by simp [sv]⟩⟩

/-- 'append(v, y...)' where v is a row of the call's own and y reads as strings. -/
theorem append_strs_run {W : World} {B : Nat} {v y : Value} {xs ys : List ByteArray} (h : OwnS W B v xs) (hy : Strs W y ys) (hl : xs.length + ys.length ≤ 1000000) (hB : B ≤ W.heap.size) :
    ∃ a c w', (Builtin.append_ #[57, 57] 57 #[v, y]).run Tryz.prog W = .ok (.slice a (xs ++ ys).length c) w' ∧ OwnS w' B (.slice a (xs ++ ys).length c) (xs ++ ys) ∧ Kept (fun k => v.ownBlock = some k) W w' := by
  obtain ⟨i0, hi, hz0, hz1, hz2⟩ := info_parts info_strS
  have key : ∃ v' w', (Builtin.append_ #[57, 57] 57 #[v, y]).run Tryz.prog W = .ok v' w' ∧ OwnS w' B v' (xs ++ ys) ∧ Kept (fun k => v.ownBlock = some k) W w' := by
    rcases hy with ⟨rfl, rfl⟩ | ⟨g, off, cap, rfl, h1, h2, h3, h4⟩
    · exact ⟨v, W, run_append_owned_none W B 57 57 9 i0 1 Tryz.underlying57 hi v _ _ h.own, by rw [List.append_nil]; exact h, Kept.refl _ _⟩
    · have hcells : ∀ j u, (sv ys)[j]? = some u → W.cell? ((⟨g, off, none⟩ : Addr).add j) = some u := fun j u hu => by
        have hadd : (⟨g, off, none⟩ : Addr).add j = ⟨g, off + j, none⟩ := by unfold Addr.add; split <;> simp_all
        have hj : j < ys.length := by
          have := (List.getElem?_eq_some_iff.1 hu).1
          rwa [sv_length] at this
        rw [hadd, h4 j hj, ← hu]
        simp [sv, List.getD, hj]
      obtain ⟨v', w', hr, ho, hg, _, hat⟩ := run_append_own_at (P := Tryz.prog) W B 57 57 9 i0 _ 1 16 Tryz.underlying57 hi hz0 hz1 hz2 rfl (by omega) v xs.length (sv xs) h.own ⟨g, off, none⟩ ys.length cap (sv ys)
        (by rw [sv_length, Nat.mul_one]) hcells (fun x hx => by simp only [sv, List.mem_map] at hx; obtain ⟨z, _, rfl⟩ := hx; rfl) (by unfold maxLen; omega) (by omega) hB
      exact ⟨v', w', hr, ⟨by rw [List.length_append]; simpa [sv] using ho⟩, Kept.ofGrown hg fun k e => e⟩
  obtain ⟨v', w', hr, hf, hk⟩ := key
  obtain ⟨a, c, rfl, _⟩ := (Strs.ofOwn hf).form
  exact ⟨a, c, w', hr, hf, hk⟩

/-- An append whose run is known, asked for or not (a guard that holds). -/
theorem wpList_appendS_run {P : Program} {w : World} {ops : Array Oper} {rest : List Oper} {o : Oper} {a : Act} {Q : Exit → Act → World → Prop} (hw : Region.wanted o (yielded ops a.tmps) = true) (s x : Operand) (t t' : TypeId)
    (ho : o.op = .call { callee := .builtin .append, args := #[s, x], argTypes := #[t, t'] }) (v u : Value) (hd : a.eval s = v) (hs : a.eval x = u) {v' : Value} {w' : World}
    (hr : (Builtin.append_ #[t, t'] o.type #[v, u]).run P w = .ok v' w') (h : wpList P ops Q rest (a.put o.dst v') w') : wpList P ops Q (o :: rest) a w := by
  refine wpList_step fun K hK => ?_
  rw [if_pos hw]
  unfold Oper.wp execOp
  simp only [ho, resolve, invoke, builtin, Sem.run_bind, Sem.run_pure, Result.andThen_ok, List.map_toArray, List.map_cons, List.map_nil, hd, hs, hr]
  exact hK _ _ h

/-- An append of one string to a row of the call's own. -/
theorem wpList_pushS {w : World} {ops : Array Oper} {rest : List Oper} {o : Oper} {a : Act} {Q : Exit → Act → World → Prop} (hw : Region.wanted o (yielded ops a.tmps) = true) (s x : Operand)
    (ho : o.op = .call { callee := .builtin .append, args := #[s, x], argTypes := #[57, 57] }) (hty : o.type = 57) (B : Nat) (v : Value) (acc : List ByteArray) (g : Nat) (z : ByteArray) (hd : a.eval s = v) (hs : a.eval x = .slice (some ⟨g, 0, none⟩) 1 1)
    (hown : OwnS w B v acc) (hz : w.cell? ⟨g, 0, none⟩ = some (.string z)) (hl : acc.length ≤ 900000) (hB : B ≤ w.heap.size)
    (h : ∀ a' c' w', OwnS w' B (.slice a' (acc.length + 1) c') (acc ++ [z]) → Kept (fun k => v.ownBlock = some k) w w' → wpList Tryz.prog ops Q rest (a.put o.dst (.slice a' (acc.length + 1) c')) w') : wpList Tryz.prog ops Q (o :: rest) a w := by
  have hI : Strs w (.slice (some ⟨g, 0, none⟩) 1 1) [z] := Or.inr ⟨g, 0, 1, rfl, Nat.le_refl _, by unfold maxLen; omega, World.block_lt_of_cell? w _ hz, fun i hi => by
    obtain rfl : i = 0 := by simpa using hi
    exact hz⟩
  obtain ⟨a', c', w', hr, hf, hk⟩ := append_strs_run hown hI (by simp; omega) hB
  rw [List.length_append] at hr hf
  exact wpList_appendS_run hw s x _ _ ho _ _ hd hs (by rw [hty]; exact hr) (h _ _ _ hf hk)
end Go.Proofs.YtnnakllgfaaejaaGreatDoor
