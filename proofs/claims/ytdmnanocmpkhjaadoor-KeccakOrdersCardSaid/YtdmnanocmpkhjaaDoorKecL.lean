/-
  Whole arrays in memory: load and store of one that lies inside a greater block, an array value at an index, a block of words known whole; the tables of keccak.
-/
import Derived.Test.YtdmnanocmpkhjaaDoorKecW
import Derived.Laws.IdiomCopy
import Derived.Laws.Rows
import Derived.Laws.Tables
namespace Go.Proofs.YtdmnanocmpkhjaaDoor
open Go.RowKit

section
variable {P : Program}

theorem run_loadVar_at (w : World) (g off : Nat) (ty : TypeId) (cs : List Value) (d : TypeDesc) (hc : ∀ j v, cs[j]? = some v → w.cell? ⟨g, off + j, none⟩ = some v)
    (hu : P.underlying ty = some d) (hd : (match d with | .struct _ | .array _ _ => true | _ => false) = true) (hi : (P.info? ty).map (·.size) = some cs.length) :
    (loadVar ty ⟨g, off, none⟩).run P w = .ok (.agg cs.toArray) w := by
  have hl : (loadCells ⟨g, off, none⟩ cs.length).run P w = .ok cs.toArray w :=
    run_loadCells_list (P := P) w ⟨g, off, none⟩ cs (fun j v hv => by
      have hadd : (⟨g, off, none⟩ : Addr).add j = ⟨g, off + j, none⟩ := by unfold Addr.add; split <;> simp_all
      rw [hadd]; exact hc j v hv)
  cases hq : P.info? ty with
  | none => simp [hq] at hi
  | some i =>
    have hs : i.size = cs.length := by simpa [hq] using hi
    have hagg : (isAgg ty).run P w = .ok true w := by
      unfold isAgg
      rw [Sem.run_bind, run_underlying hu w]
      cases d <;> simp_all
    simp [loadVar, Sem.run_bind, hagg, sizeOf, typeInfo, hq, hs, hl]

theorem wpList_load_at {ops : Array Oper} {rest : List Oper} {o : Oper} {a : Act} {w : World} {Q : Exit → Act → World → Prop} (hgd : o.guard = none) (ty : TypeId) (x : Operand) (ho : o.op = .load ty x)
    (g off : Nat) (hx : a.eval x = .pointer (some ⟨g, off, none⟩)) (cs : List Value) (d : TypeDesc) (hc : ∀ j v, cs[j]? = some v → w.cell? ⟨g, off + j, none⟩ = some v)
    (hu : P.underlying ty = some d) (hd : (match d with | .struct _ | .array _ _ => true | _ => false) = true) (hi : (P.info? ty).map (·.size) = some cs.length)
    (h : wpList P ops Q rest (a.put o.dst (.agg cs.toArray)) w) : wpList P ops Q (o :: rest) a w := by
  refine wpList_plain hgd fun K hK => ?_
  unfold Oper.wp execOp
  simp only [ho, hx, Instr.loadAt, Instr.sureAddr, Sem.run_bind, Sem.run_pure, Result.andThen_ok, run_loadVar_at w g off ty cs d hc hu hd hi]
  exact hK _ _ h

theorem run_storeVar_at (w : World) (g off : Nat) (ty : TypeId) (cs : List Value) (hc : ∀ j, j < cs.length → (w.cell? ⟨g, off + j, none⟩).isSome = true) (hf : ∀ j, j < cs.length → w.frozen? ⟨g, off + j, none⟩ = false) (h1 : ∀ v ∈ cs, v.oneCell' = true)
    (hi : (P.info? ty).map (·.size) = some cs.length) :
    (storeVar ty ⟨g, off, none⟩ (.agg cs.toArray)).run P w = .ok () (w.setCells g off cs) := by
  have hst := run_storeCells_cells (P := P) g off cs 0 w (by simpa using hc) (by simpa using hf) h1
  rw [Nat.add_zero] at hst
  cases hq : P.info? ty with
  | none => simp [hq] at hi
  | some i =>
    have hs : cs.length = i.size := by simp [hq] at hi; omega
    simp [storeVar, sizeOf, typeInfo, hq, Value.cells, hs, hst]

theorem wpList_store_at {ops : Array Oper} {rest : List Oper} {o : Oper} {a : Act} {w : World} {Q : Exit → Act → World → Prop} (hgd : o.guard = none) (ty : TypeId) (x y : Operand) (ho : o.op = .store ty x y)
    (g off : Nat) (cs : List Value) (hx : a.eval x = .pointer (some ⟨g, off, none⟩)) (hy : a.eval y = .agg cs.toArray)
    (hc : ∀ j, j < cs.length → (w.cell? ⟨g, off + j, none⟩).isSome = true) (hf : ∀ j, j < cs.length → w.frozen? ⟨g, off + j, none⟩ = false) (h1 : ∀ v ∈ cs, v.oneCell' = true)
    (hi : (P.info? ty).map (·.size) = some cs.length)
    (h : wpList P ops Q rest (a.put o.dst undef) (w.setCells g off cs)) : wpList P ops Q (o :: rest) a w := by
  refine wpList_plain hgd fun K hK => ?_
  unfold Oper.wp execOp
  simp only [ho, hx, hy, Instr.storeAt, Instr.sureAddr, Sem.run_bind, Sem.run_pure, Result.andThen_ok, run_storeVar_at w g off ty cs hc hf h1 hi]
  exact hK _ _ h

/-- An array value of integers at an index. -/
theorem run_index_agg (w : World) (t e : TypeId) (n : Nat) (cs : Array Value) (i : Nat) (v : Value) (k : IntKind) (ie : TypeInfo) (ht : P.underlying t = some (.array n e)) (he : P.underlying e = some (.int k))
    (hie : P.info? e = some ie) (hs : ie.size = 1) (hi : i < n) (hv : cs[i]? = some v) : (Instr.index t (.agg cs) (.int .i64 i)).run P w = .ok v w := by
  have hagg : (isAgg e).run P w = .ok false w := by
    unfold isAgg
    rw [Sem.run_bind, run_underlying he w]
    simp
  have hi' : (i : Int) < n := by omega
  simp [Instr.index, asIntOf, run_underlying ht, part, hagg, sizeOf, typeInfo, hie, hs, hv, hi]
end

/-- A block that is just these words. -/
def arr (s : List Nat) : List Value := s.map fun n : Nat => Value.int .u64 (n : Int)
theorem arr_length (s : List Nat) : (arr s).length = s.length := by simp [arr]
theorem arr_get (s : List Nat) (i : Nat) (hi : i < s.length) : (arr s)[i]? = some (.int .u64 (ln s i : Nat)) := by simp [arr, ln, List.getD, hi]
theorem arr_one (s : List Nat) : ∀ v ∈ arr s, v.oneCell' = true := by
  intro v hv
  simp only [arr, List.mem_map] at hv
  obtain ⟨n, _, rfl⟩ := hv
  rfl
structure KTab (w : World) : Prop where
  lt1 : 2 < w.heap.size
  lt2 : 3 < w.heap.size
  lt3 : 1 < w.heap.size
  turn : ∀ i, i < 25 → w.cell? ⟨2, i, none⟩ = some (.int .u8 (trn.getD i 0 : Nat))
  place : ∀ i, i < 25 → w.cell? ⟨3, i, none⟩ = some (.int .u8 (plc.getD i 0 : Nat))
  rc : ∀ i, i < 24 → w.cell? ⟨1, i, none⟩ = some (.int .u64 (rcs.getD i 0 : Nat))
theorem KTab.kept {S : Nat → Prop} {a b : World} (h : KTab a) (hk : Kept S a b) (hn : ∀ k, k < 10 → ¬ S k) : KTab b :=
  ⟨Nat.lt_of_lt_of_le h.lt1 hk.size, Nat.lt_of_lt_of_le h.lt2 hk.size, Nat.lt_of_lt_of_le h.lt3 hk.size,
    fun i hi => (hk.cell (p := ⟨2, i, none⟩) h.lt1 (hn 2 (by decide))).trans (h.turn i hi), fun i hi => (hk.cell (p := ⟨3, i, none⟩) h.lt2 (hn 3 (by decide))).trans (h.place i hi), fun i hi => (hk.cell (p := ⟨1, i, none⟩) h.lt3 (hn 1 (by decide))).trans (h.rc i hi)⟩

theorem results_cell_at {P : Program} {fn : Func} {p : Tmp} {ty : TypeId} (h : fn.results = #[.cell p ty]) (tmps : Array Value) (w : World) (g : Nat) (cs : List Value) (d : TypeDesc)
    (hp : tmps.getD p undef = .pointer (some ⟨g, 0, none⟩)) (hc : ∀ j v, cs[j]? = some v → w.cell? ⟨g, 0 + j, none⟩ = some v)
    (hu : P.underlying ty = some d) (hd : (match d with | .struct _ | .array _ _ => true | _ => false) = true) (hi : (P.info? ty).map (·.size) = some cs.length) :
    (results fn tmps).run P w = .ok (.agg cs.toArray) w := by
  have hp' : tmps[p]?.getD undef = .pointer (some ⟨g, 0, none⟩) := by simpa using hp
  simp [results, h, hp', asAddr, run_loadVar_at w g 0 ty cs d hc hu hd hi]

theorem Kept.setCells (g : Nat) : ∀ (cs : List Value) (off : Nat) (w : World), Kept (fun k => k = g) w (w.setCells g off cs)
  | [], _, _ => Kept.refl _ _
  | v :: r, off, w => (Kept.setCell (fun k => k = g) w ⟨g, off, none⟩ v rfl).trans (Kept.setCells g r (off + 1) _) (fun _ _ h => h) (fun _ _ h => h)
theorem KR.setCells (g : Nat) : ∀ (cs : List Value) (off lo hi : Nat) (w : World), lo ≤ off → off + cs.length ≤ hi → KR g lo hi w (w.setCells g off cs)
  | [], _, lo, hi, w, _, _ => KR.refl _ _ _ _
  | v :: r, off, lo, hi, w, h1, h2 => by
    simp at h2
    exact (KR.setCell g off lo hi w v (by omega)).trans (KR.setCells g r (off + 1) lo hi _ (by omega) (by omega)) (Nat.le_refl _) (Nat.le_refl _) (Nat.le_refl _) (Nat.le_refl _)
/-- Behind a store of words. -/
theorem Lanes.setCells {w : World} {g off : Nat} {s t : List Nat} (h : Lanes w g off s) (hl : s.length = t.length) : Lanes (w.setCells g off (arr t)) g off t := by
  refine ⟨fun i hi => ?_, fun i hi => ?_⟩
  · have := World.cell?_setCells_in g (arr t) off w (fun j hj => by rw [h.cell j (by rw [arr_length] at hj; omega)]; rfl) i (by rw [arr_length]; exact hi)
    rw [this]
    simp [arr, List.getD, hi]
  · rw [World.frozen?_setCells]; exact h.free i (by omega)
theorem Lanes.get {w : World} {g off : Nat} {s : List Nat} (h : Lanes w g off s) : ∀ j v, (arr s)[j]? = some v → w.cell? ⟨g, off + j, none⟩ = some v := by
  intro j v hv
  have hj : j < s.length := by
    have := (List.getElem?_eq_some_iff.1 hv).1
    rwa [arr_length] at this
  rw [h.cell j hj, ← hv, arr_get s j hj]; rfl
end Go.Proofs.YtdmnanocmpkhjaaDoor
