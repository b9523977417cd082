/-
  Permissions as the keys of a map of flags: what a key reads as, which permissions such a map has.
-/
import Derived.Test.YtcooacjpblhblaaDoorPmE
import Derived.Maps.Own
import Derived.Maps.OwnSet
import Derived.Maps.OwnOps
import Derived.Maps.RangeWalk
import Derived.Maps.Ext
import Derived.Laws.BytesArg
import Derived.StillTailTactics
import Derived.Laws.IdiomRangeMap
import Derived.DeepKeys4
import Derived.ChangeKeysEq
namespace Go.Proofs.YtcooacjpblhblaaDoor
open Go.RowKit Go.Maps Go.WideMaps Go.ChangeMaps
set_option linter.unusedSimpArgs false
set_option linter.unusedVariables false

theorem zeroBl (w : World) : (zeroValue 4).run Tryd.prog w = .ok (.bool false) w := by kernel_rfl
theorem pl_bool (x : Bool) : plainElem (H := Unit) Tryd.prog 4 (.bool x) = some (.lit (.bool x), []) := plainElem_bool Tryd.underlying4 x
set_option maxRecDepth 100000 in
theorem pl_bool_inv {v : Value} {z : DataW Unit × List MemPlace} (h : plainElem Tryd.prog 4 v = some z) : ∃ x, v = .bool x ∧ z = (.lit (.bool x), []) := by
  unfold plainElem at h
  rw [Tryd.underlying4] at h
  cases v <;> simp at h
  exact ⟨_, rfl, h.symm⟩
/-- A bool's value by a number (the walk parts a '∀' over Bool). -/
def vB (c : Nat) : Value := .bool (decide (c = 1))
theorem pl_vB_inv {v : Value} {z : DataW Unit × List MemPlace} (h : plainElem Tryd.prog 4 v = some z) : ∃ c, v = vB c := by
  obtain ⟨x, rfl, _⟩ := pl_bool_inv h
  cases x with
  | false => exact ⟨0, rfl⟩
  | true => exact ⟨1, rfl⟩

/-- A look-up whose run is known, asked for or not (a guard that holds). -/
theorem wpList_lookup_run {P : Program} {w : World} {ops : Array Oper} {rest : List Oper} {o : Oper} {a : Act} {Q : Exit → Act → World → Prop} (hw : Region.wanted o (yielded ops a.tmps) = true) (m x : Operand) (t : TypeId)
    (ho : o.op = Op.lookup t m x false) (mv key : Value) (hm : a.eval m = mv) (hx : a.eval x = key) {v : Value} {w' : World} (hr : (Instr.lookup t mv key false).run P w = .ok v w') (h : wpList P ops Q rest (a.put o.dst v) w') : wpList P ops Q (o :: rest) a w := by
  refine wpList_step fun K hK => ?_
  rw [if_pos hw]
  unfold Oper.wp
  simp [execOp, ho, hm, hx, hr, Result.andThen]
  exact hK _ _ h

theorem laidOutQ : laidOutB Tryd.prog = true := by kernel_rfl
theorem lawQ : Keyed Tryd.prog 27 := Keyed.of_law (deep_law_laid laidOutQ (m := 3) (by omega) (of_decide_eq_true (by kernel_rfl)) (by kernel_rfl) (by kernel_rfl))
theorem structQ : ∃ fs, Tryd.prog.underlying 27 = some (.struct fs) := ⟨_, Tryd.underlying27⟩
theorem cellsQ : Tryd.prog.cellsOf 27 = 3 := by kernel_rfl
theorem cellsStr : Tryd.prog.cellsOf 9 = 1 := by kernel_rfl
theorem cellsBool : Tryd.prog.cellsOf 4 = 1 := by kernel_rfl
theorem keyTypeQ : Tryd.prog.keyType 27 = true := by kernel_rfl
/-- What a permission reads as. -/
def klQ (x : Per) : Lit := .string (keyBytes [.string x.a.data.toList, .string x.p.data.toList, .bool x.d])
set_option maxRecDepth 100000 in
theorem key_litsQ (n : Nat) (a p d : Value) (x y z : Option (List Lit)) (hx : Tryd.prog.keyLits (n + 1) 9 [a] = x) (hy : Tryd.prog.keyLits (n + 1) 9 [p] = y) (hz : Tryd.prog.keyLits (n + 1) 4 [d] = z) :
    Tryd.prog.keyLits (n + 2) 27 [a, p, d] = x.bind fun x => y.bind fun y => z.bind fun z => some (x ++ (y ++ z)) := by
  unfold Program.keyLits
  simp only [Tryd.underlying27]
  rw [if_pos ⟨by rw [cellsQ]; rfl, by decide +kernel⟩]
  simp [cellsStr, cellsBool, hx, hy, hz]
  cases x <;> cases y <;> cases z <;> simp
theorem litS (n : Nat) (s : ByteArray) (h : s.size ≤ maxLen) : Tryd.prog.keyLits (n + 1) 9 [.string s] = some [.string s.data.toList] := by
  unfold Program.keyLits
  simp [Tryd.underlying9, h]
theorem litB (n : Nat) (b : Bool) : Tryd.prog.keyLits (n + 1) 4 [.bool b] = some [.bool b] := by
  unfold Program.keyLits
  simp [Tryd.underlying4]
theorem types_two : ∃ n, Tryd.prog.types.size + 1 = n + 2 := ⟨Tryd.prog.types.size - 1, by have : 1 ≤ Tryd.prog.types.size := of_decide_eq_true (by kernel_rfl); omega⟩
set_option maxRecDepth 100000 in
theorem key_mkQ (x : Per) (ha : x.a.size ≤ maxLen) (hp : x.p.size ≤ maxLen) : keyOf Tryd.prog 27 (perV x) = some (klQ x) := by
  obtain ⟨fs, hu⟩ := structQ
  obtain ⟨n, hn⟩ := types_two
  unfold keyOf
  rw [hu]
  simp only
  rw [if_pos (by rw [keyTypeQ]; simp [perV, Value.formed, hu, cellsQ]), hn]
  have : (perV x).cells.toList = [.string x.a, .string x.p, .bool x.d] := rfl
  rw [this, key_litsQ n _ _ _ _ _ _ (litS _ _ ha) (litS _ _ hp) (litB _ _)]
  rfl
set_option maxRecDepth 100000 in
theorem key_invQ {v : Value} {kl : Lit} (h : keyOf Tryd.prog 27 v = some kl) : ∃ x : Per, v = perV x ∧ kl = klQ x ∧ x.a.size ≤ maxLen ∧ x.p.size ≤ maxLen := by
  obtain ⟨fs, hu⟩ := structQ
  obtain ⟨n, hn⟩ := types_two
  unfold keyOf at h
  rw [hu] at h
  simp only at h
  split at h
  · rename_i hf
    rw [Bool.and_eq_true] at hf
    have hf2 := hf.2
    cases v <;> simp only [Value.formed, hu, Bool.false_eq_true] at hf2
    rename_i cs
    rw [cellsQ] at hf2
    obtain ⟨cs⟩ := cs
    match cs, hf2, h with
    | [a, p, d], _, h =>
      have hc : (Value.agg ⟨[a, p, d]⟩).cells.toList = [a, p, d] := rfl
      rw [hn, hc, key_litsQ n a p d _ _ _ rfl rfl rfl] at h
      cases h1 : Tryd.prog.keyLits (n + 1) 9 [a] with
      | none => rw [h1] at h; simp at h
      | some la =>
        cases h2 : Tryd.prog.keyLits (n + 1) 9 [p] with
        | none => rw [h1, h2] at h; simp at h
        | some lp =>
          cases h3 : Tryd.prog.keyLits (n + 1) 4 [d] with
          | none => rw [h1, h2, h3] at h; simp at h
          | some ld =>
            obtain ⟨sa, ea, rfl⟩ := keyLits_string' Tryd.underlying9 h1
            obtain ⟨sp, ep, rfl⟩ := keyLits_string' Tryd.underlying9 h2
            obtain ⟨sd, ed, rfl⟩ := keyLits_bool' Tryd.underlying4 h3
            simp only [List.cons.injEq, and_true] at ea ep ed
            subst ea; subst ep; subst ed
            rw [h1, h2, h3] at h
            simp at h
            have e1 : sa.size ≤ maxLen := by
              unfold Program.keyLits at h1
              simp [Tryd.underlying9] at h1
              exact h1
            have e2 : sp.size ≤ maxLen := by
              unfold Program.keyLits at h2
              simp [Tryd.underlying9] at h2
              exact h2
            exact ⟨⟨sa, sp, sd⟩, rfl, h.symm, e1, e2⟩
  · cases h
theorem perV_inj {x y : Per} (h : perV x = perV y) : x = y := by
  cases x; cases y
  unfold perV at h
  simp at h
  simp [h]
def smallQ (x : Per) : Prop := x.a.size ≤ maxLen ∧ x.p.size ≤ maxLen
theorem klQ_inj {x y : Per} (hx : smallQ x) (hy : smallQ y) (h : klQ x = klQ y) : x = y :=
  perV_inj (lawQ.inj (key_mkQ x hx.1 hx.2) (by rw [key_mkQ y hy.1 hy.2, h]))

abbrev OwnMQ (w : World) (m n : Nat) (D : DataW Unit) : Prop := w.ownsMap Tryd.prog 27 (plainElem Tryd.prog 4) m n D
theorem ownMQ_kept {S : Nat → Prop} {a b : World} {m n : Nat} {D : DataW Unit} (h : OwnMQ a m n D) (hk : Kept S a b) (hn : ¬ S m) : OwnMQ b m n D := by
  have hlt := h.lt
  obtain ⟨es, clock, h1, h2⟩ := h
  exact ⟨es, clock, (hk.block m hlt hn).trans h1, h2⟩
/-- Which permissions a map has. -/
def MapQ (D : DataW Unit) (M : Per → Bool) : Prop :=
  ∀ x : Per, smallQ x → Maps.has D (klQ x) = M x ∧ D.atKey (klQ x) (.lit (.bool false)) = .lit (.bool (M x))
theorem MapQ.nil : MapQ (.map []) (fun _ => false) := fun s _ => ⟨by simp [Maps.has], rfl⟩
theorem MapQ.put {D : DataW Unit} {M : Per → Bool} (y : Per) (hy : smallQ y) (h : MapQ D M) (hD : IsMap D) : MapQ (D.put (klQ y) (.lit (.bool true))) (fun x => decide (x = y) || M x) := fun x hx => by
  by_cases e : x = y
  · subst e
    exact ⟨by rw [has_put_same (k := klQ x) hD trivial]; simp, by rw [atKey_put_same (k := klQ x) hD trivial]; simp⟩
  · have hne : klQ x ≠ klQ y := fun e2 => e (klQ_inj hx hy e2)
    rw [has_put_other hne, atKey_put_other hne]
    simp [e]
    exact h x hx
end Go.Proofs.YtcooacjpblhblaaDoor
