/-
  arbacref01: Has, With, Of, Below on ascending lists.
-/
import Derived.Test.YtccanbjnbmihgaaDoorBRm
import Derived.Test.YtccanbjnbmihgaaDoorMembers
import Derived.Maps.AppendAt
import Derived.Laws.AppendOwnNone
namespace Go.Proofs.YtccanbjnbmihgaaDoor
open Go.RowKit

theorem Ints.form {w : World} {v : Value} {xs : List Int} (h : Ints w v xs) : ∃ a c, v = .slice a xs.length c := by
  rcases h with ⟨rfl, rfl⟩ | ⟨g, off, cap, rfl, _⟩
  · exact ⟨_, _, rfl⟩
  · exact ⟨_, _, rfl⟩

/-- A row of ints of the call's own. -/
structure OwnI (W : World) (B : Nat) (v : Value) (xs : List Int) : Prop where
  own : W.ownsRow B 3 1 v xs.length (nv xs)
theorem OwnI.ints {W : World} {B : Nat} {v : Value} {xs : List Int} (h : OwnI W B v xs) : Ints W v xs := Ints.ofOwns h.own
theorem OwnI.lt {W : World} {B : Nat} {v : Value} {xs : List Int} (h : OwnI W B v xs) : ∀ k, v.ownBlock = some k → B ≤ k := fun k hk => (h.own.lt k hk).1
theorem OwnI.nil (W : World) (B : Nat) : OwnI W B (.slice none 0 0) [] := ⟨World.ownsRow_nil _ _ _ _⟩

/-- 'append(v, y...)' where v is a row of the call's own and y reads as ints. -/
theorem append_ints_run {W : World} {B : Nat} {v y : Value} {xs ys : List Int} (h : OwnI W B v xs) (hy : Ints W y ys) (hl : xs.length + ys.length ≤ 1000000) (hB : B ≤ W.heap.size) :
    ∃ a c w', (Builtin.append_ #[52, 52] 52 #[v, y]).run Tryd.prog W = .ok (.slice a (xs ++ ys).length c) w' ∧ OwnI w' B (.slice a (xs ++ ys).length c) (xs ++ ys) ∧ Kept (fun k => v.ownBlock = some k) W w' := by
  obtain ⟨i0, hi, hz0, hz1, hz2⟩ := info_parts info_i64m
  have key : ∃ v' w', (Builtin.append_ #[52, 52] 52 #[v, y]).run Tryd.prog W = .ok v' w' ∧ OwnI w' B v' (xs ++ ys) ∧ Kept (fun k => v.ownBlock = some k) W w' := by
    rcases hy with ⟨rfl, rfl⟩ | ⟨g, off, cap, rfl, h1, h2, h3, h4⟩
    · exact ⟨v, W, run_append_owned_none W B 52 52 3 i0 1 Tryd.underlying52 hi v _ _ h.own, by rw [List.append_nil]; exact h, Kept.refl _ _⟩
    · have hcells : ∀ j u, (nv ys)[j]? = some u → W.cell? ((⟨g, off, none⟩ : Addr).add j) = some u := fun j u hu => by
        have hadd : (⟨g, off, none⟩ : Addr).add j = ⟨g, off + j, none⟩ := by unfold Addr.add; split <;> simp_all
        have hj : j < ys.length := by
          have := (List.getElem?_eq_some_iff.1 hu).1
          rwa [nv_length] at this
        rw [hadd, h4 j hj, ← hu]
        simp [nv, List.getD, hj]
      obtain ⟨v', w', hr, ho, hg, _, hat⟩ := run_append_own_at (P := Tryd.prog) W B 52 52 3 i0 _ 1 8 Tryd.underlying52 hi hz0 hz1 hz2 rfl (by omega) v xs.length (nv xs) h.own ⟨g, off, none⟩ ys.length cap (nv ys)
        (by rw [nv_length, Nat.mul_one]) hcells (fun x hx => by simp only [nv, List.mem_map] at hx; obtain ⟨z, _, rfl⟩ := hx; rfl) (by unfold maxLen; omega) (by omega) hB
      exact ⟨v', w', hr, ⟨by rw [List.length_append]; simpa [nv] using ho⟩, Kept.ofGrown hg fun k e => e⟩
  obtain ⟨v', w', hr, hf, hk⟩ := key
  obtain ⟨a, c, rfl⟩ := hf.ints.form
  exact ⟨a, c, w', hr, hf, hk⟩

theorem own_new (w : World) : OwnI (w.alloc (.cells #[] 3)) w.heap.size (.slice (some ⟨w.heap.size, 0, none⟩) 0 0) [] :=
  ⟨by simp [nv], Or.inr ⟨w.heap.size, 0, #[], rfl, Nat.le_refl _, heap_alloc_new w _, Nat.le_refl _, Nat.zero_le _, by simp, by simp [nv]⟩⟩
theorem OwnI.alloc {W : World} {B : Nat} {v : Value} {xs : List Int} (h : OwnI W B v xs) (o : Obj) : OwnI (W.alloc o) B v xs := ⟨h.own.alloc _⟩

/-- An append whose run is known, asked for or not (a guard that holds). -/
theorem wpList_appendI_run {P : Program} {w : World} {ops : Array Oper} {rest : List Oper} {o : Oper} {a : Act} {Q : Exit → Act → World → Prop} (hw : Region.wanted o (yielded ops a.tmps) = true) (s x : Operand) (t t' : TypeId)
    (ho : o.op = .call { callee := .builtin .append, args := #[s, x], argTypes := #[t, t'] }) (v u : Value) (hd : a.eval s = v) (hs : a.eval x = u) {v' : Value} {w' : World}
    (hr : (Builtin.append_ #[t, t'] o.type #[v, u]).run P w = .ok v' w') (h : wpList P ops Q rest (a.put o.dst v') w') : wpList P ops Q (o :: rest) a w := by
  refine wpList_step fun K hK => ?_
  rw [if_pos hw]
  unfold Oper.wp execOp
  simp only [ho, resolve, invoke, builtin, Sem.run_bind, Sem.run_pure, Result.andThen_ok, List.map_toArray, List.map_cons, List.map_nil, hd, hs, hr]
  exact hK _ _ h

/-- An append of one number to a row of the call's own. -/
theorem wpList_push {w : World} {ops : Array Oper} {rest : List Oper} {o : Oper} {a : Act} {Q : Exit → Act → World → Prop} (hw : Region.wanted o (yielded ops a.tmps) = true) (s x : Operand)
    (ho : o.op = .call { callee := .builtin .append, args := #[s, x], argTypes := #[52, 52] }) (hty : o.type = 52) (B : Nat) (v : Value) (acc : List Int) (g : Nat) (z : Int) (hd : a.eval s = v) (hs : a.eval x = .slice (some ⟨g, 0, none⟩) 1 1)
    (hown : OwnI w B v acc) (hz : w.cell? ⟨g, 0, none⟩ = some (.int .i64 z)) (hl : acc.length ≤ 900000) (hB : B ≤ w.heap.size)
    (h : ∀ v' w', OwnI w' B v' (acc ++ [z]) → Kept (fun k => v.ownBlock = some k) w w' → wpList Tryd.prog ops Q rest (a.put o.dst v') w') : wpList Tryd.prog ops Q (o :: rest) a w := by
  have hI : Ints w (.slice (some ⟨g, 0, none⟩) 1 1) [z] := Or.inr ⟨g, 0, 1, rfl, Nat.le_refl _, by unfold maxLen; omega, World.block_lt_of_cell? w _ hz, fun i hi => by
    obtain rfl : i = 0 := by simpa using hi
    exact hz⟩
  obtain ⟨a', c', w', hr, hf, hk⟩ := append_ints_run hown hI (by simp; omega) hB
  exact wpList_appendI_run hw s x _ _ ho _ _ hd hs (by rw [hty]; exact hr) (h _ _ hf hk)

end Go.Proofs.YtccanbjnbmihgaaDoor
