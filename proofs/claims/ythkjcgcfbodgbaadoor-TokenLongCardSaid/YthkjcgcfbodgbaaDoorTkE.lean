/-
  Tokens: first (the token at the beginning of a text).
-/
import Derived.Test.YthkjcgcfbodgbaaDoorTkD
import Derived.Laws.IdiomCopy
import Derived.Laws.Rows
import Derived.Laws.Tables
namespace Go.Proofs.YthkjcgcfbodgbaaDoor
open Go.RowKit Go.Shelf
set_option linter.unusedSimpArgs false
set_option linter.unusedVariables false

section
variable {P : Program}
theorem run_loadVar_atT (w : World) (g off : Nat) (ty : TypeId) (cs : List Value) (d : TypeDesc) (hc : ∀ j v, cs[j]? = some v → w.cell? ⟨g, off + j, none⟩ = some v)
    (hu : P.underlying ty = some d) (hd : (match d with | .struct _ | .array _ _ => true | _ => false) = true) (hi : (P.info? ty).map (·.size) = some cs.length) :
    (loadVar ty ⟨g, off, none⟩).run P w = .ok (.agg cs.toArray) w := by
  have hl : (loadCells ⟨g, off, none⟩ cs.length).run P w = .ok cs.toArray w :=
    run_loadCells_list (P := P) w ⟨g, off, none⟩ cs (fun j v hv => by
      have hadd : (⟨g, off, none⟩ : Addr).add j = ⟨g, off + j, none⟩ := by unfold Addr.add; split <;> simp_all
      rw [hadd]; exact hc j v hv)
  cases hq : P.info? ty with
  | none => simp [hq] at hi
  | some i =>
    have hs : i.size = cs.length := by simpa [hq] using hi
    have hagg : (isAgg ty).run P w = .ok true w := by
      unfold isAgg
      rw [Sem.run_bind, run_underlying hu w]
      cases d <;> simp_all
    simp [loadVar, Sem.run_bind, hagg, sizeOf, typeInfo, hq, hs, hl]
theorem wpList_load_global {ops : Array Oper} {rest : List Oper} {o : Oper} {a : Act} {w : World} {Q : Exit → Act → World → Prop} (hgd : o.guard = none) (ty : TypeId) (x : Operand) (ho : o.op = .load ty x)
    (g off : Nat) (hx : a.eval x = .pointer (some ⟨g, off, none⟩)) (cs : List Value) (d : TypeDesc) (hc : ∀ j v, cs[j]? = some v → w.cell? ⟨g, off + j, none⟩ = some v)
    (hu : P.underlying ty = some d) (hd : (match d with | .struct _ | .array _ _ => true | _ => false) = true) (hi : (P.info? ty).map (·.size) = some cs.length)
    (h : wpList P ops Q rest (a.put o.dst (.agg cs.toArray)) w) : wpList P ops Q (o :: rest) a w := by
  refine wpList_plain hgd fun K hK => ?_
  unfold Oper.wp execOp
  simp only [ho, hx, Instr.loadAt, Instr.sureAddr, Sem.run_bind, Sem.run_pure, Result.andThen_ok, run_loadVar_atT w g off ty cs d hc hu hd hi]
  exact hK _ _ h
/-- An array value of strings at an index. -/
theorem run_index_str (w : World) (t e : TypeId) (n : Nat) (cs : Array Value) (i : Nat) (v : Value) (ie : TypeInfo) (ht : P.underlying t = some (.array n e)) (he : P.underlying e = some .string)
    (hie : P.info? e = some ie) (hs : ie.size = 1) (hi : i < n) (hv : cs[i]? = some v) : (Instr.index t (.agg cs) (.int .i64 i)).run P w = .ok v w := by
  have hagg : (isAgg e).run P w = .ok false w := by
    unfold isAgg
    rw [Sem.run_bind, run_underlying he w]
    simp
  have hi' : (i : Int) < n := by omega
  simp [Instr.index, asIntOf, run_underlying ht, part, hagg, sizeOf, typeInfo, hie, hs, hv, hi]
end

/-- The symbols. -/
def symB : List ByteArray := [⟨#[45, 62]⟩, ⟨#[60, 61]⟩, ⟨#[62, 61]⟩, ⟨#[61, 61]⟩, ⟨#[60]⟩, ⟨#[62]⟩, ⟨#[40]⟩, ⟨#[41]⟩, ⟨#[44]⟩, ⟨#[59]⟩, ⟨#[58]⟩, ⟨#[43]⟩, ⟨#[45]⟩]
theorem symB_list : symL = symB.map strB := by decide +kernel
/-- The variable symbols reads as listed. -/
structure Sym (w : World) : Prop where
  lt : 0 < w.heap.size
  cell : ∀ i, i < 13 → w.cell? ⟨0, i, none⟩ = some (.string (symB.getD i ⟨#[]⟩))
theorem Sym.kept {S : Nat → Prop} {a b : World} (h : Sym a) (hk : Kept S a b) (hn : ¬ S 0) : Sym b :=
  ⟨Nat.lt_of_lt_of_le h.lt hk.size, fun i hi => (hk.cell (p := ⟨_, i, none⟩) h.lt hn).trans (h.cell i hi)⟩

theorem prefix_map (p l : List UInt8) : (p.map UInt8.toNat).isPrefixOf (l.map UInt8.toNat) = p.isPrefixOf l := by
  induction p generalizing l with
  | nil => cases l <;> rfl
  | cons a t ih =>
    cases l with
    | nil => rfl
    | cons b r =>
      simp only [List.map_cons, List.isPrefixOf, ih]
      congr 1
      rw [Bool.eq_iff_iff, beq_iff_eq, beq_iff_eq]
      exact UInt8.toNat_inj
theorem find_at {α : Type} {f : α → Bool} {d : α} : ∀ (l : List α) (k : Nat), k < l.length → (∀ j, j < k → f (l.getD j d) = false) → f (l.getD k d) = true → l.find? f = some (l.getD k d)
  | [], k, hk, _, _ => by simp at hk
  | x :: t, 0, _, _, h => by
    simp only [List.getD_cons_zero] at h ⊢
    simp [List.find?, h]
  | x :: t, k + 1, hk, h1, h2 => by
    have h0 := h1 0 (by omega)
    simp only [List.getD_cons_zero] at h0
    simp only [List.getD_cons_succ] at h2 ⊢
    rw [List.find?, h0]
    exact find_at t k (by simpa using hk) (fun j hj => by have := h1 (j + 1) (by omega); simpa using this) h2
theorem find_no {α : Type} {f : α → Bool} {d : α} (l : List α) (h : ∀ j, j < l.length → f (l.getD j d) = false) : l.find? f = none := by
  rw [List.find?_eq_none]
  intro x hx
  obtain ⟨j, hj, rfl⟩ := List.getElem_of_mem hx
  have := h j hj
  simp only [List.getD, List.getElem?_eq_getElem hj, Option.getD_some] at this
  rw [this]; decide
theorem sym_at {s : ByteArray} {k : Nat} (hk : k < 13) (h1 : ∀ j, j < k → Lib.hasPrefix s.data.toList (symB.getD j ⟨#[]⟩).data.toList = false) (h2 : Lib.hasPrefix s.data.toList (symB.getD k ⟨#[]⟩).data.toList = true) :
    symN (strB s) = (symB.getD k ⟨#[]⟩).size ∧ s.extract 0 (symB.getD k ⟨#[]⟩).size = symB.getD k ⟨#[]⟩ := by
  have hg : ∀ j, j < 13 → symL.getD j [] = strB (symB.getD j ⟨#[]⟩) := by decide +kernel
  have hp : ∀ j, j < 13 → (symL.getD j []).isPrefixOf (strB s) = Lib.hasPrefix s.data.toList (symB.getD j ⟨#[]⟩).data.toList := fun j hj => by
    rw [hg j hj]
    exact prefix_map _ _
  constructor
  · unfold symN
    rw [find_at (d := []) symL k hk (fun j hj => by rw [hp j (by omega)]; exact h1 j hj) (by rw [hp k hk]; exact h2), Option.getD_some, hg k hk, strB_len]
  · apply str_extT
    rw [extract_listT]
    unfold Lib.hasPrefix at h2
    rw [List.isPrefixOf_iff_prefix, List.prefix_iff_eq_take] at h2
    have e : (symB.getD k ⟨#[]⟩).size = (symB.getD k ⟨#[]⟩).data.toList.length := rfl
    rw [e]
    exact h2.symm
theorem sym_no {s : ByteArray} (h1 : ∀ j, j < 13 → Lib.hasPrefix s.data.toList (symB.getD j ⟨#[]⟩).data.toList = false) : symN (strB s) = 0 := by
  have hg : ∀ j, j < 13 → symL.getD j [] = strB (symB.getD j ⟨#[]⟩) := by decide +kernel
  unfold symN
  rw [find_no (d := []) symL (fun j hj => by
    have hj : j < 13 := hj
    rw [hg j hj]
    exact (prefix_map _ _).trans (h1 j hj))]
  rfl

/-- The token at the beginning, as first returns it. -/
def firstV (s : ByteArray) : Value := if (firstT (strB s)).1 = 0 then noTok else tokV (firstT (strB s)).1 (s.extract 0 (firstT (strB s)).2.1) (firstT (strB s)).2.2 0
theorem firstT_cons {s : ByteArray} (h0 : 0 < s.size) : firstT (strB s) = if letB (bat s 0) = true then (1, ((strB s).takeWhile inWordB).length, 0)
    else if digB (bat s 0) = true then
      (if 6 < ((strB s).takeWhile digB).length ∨ (bat s 0 = 48 ∧ 1 < ((strB s).takeWhile digB).length) ∨ (((strB s).takeWhile digB).length < s.size ∧ inWordB (bat s ((strB s).takeWhile digB).length) = true) then (0, 0, 0) else (2, ((strB s).takeWhile digB).length, valN ((strB s).take ((strB s).takeWhile digB).length)))
    else if symN (strB s) = 0 then (0, 0, 0) else (3, symN (strB s), 0) := by
  have hl := strB_len s
  have hb : ∀ j, bat s j = (strB s).getD j 0 := fun j => rfl
  simp only [hb, ← hl]
  cases hs : strB s with
  | nil => rw [hs] at hl; simp at hl; omega
  | cons a t => rfl

end Go.Proofs.YthkjcgcfbodgbaaDoor
