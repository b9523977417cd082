/-
  Whole structures of many cells in memory: load and store; the empty book, and a book's copy.
-/
import Derived.Test.YtccanbjnbmihgaaDoorMbM
import Derived.Laws.IdiomCopy
namespace Go.Proofs.YtccanbjnbmihgaaDoor
open Go.RowKit Go.Shelf
set_option linter.unusedVariables false
set_option linter.unusedSimpArgs false

section
variable {P : Program}
theorem run_loadVar_at (w : World) (g off : Nat) (ty : TypeId) (cs : List Value) (d : TypeDesc) (hc : ∀ j v, cs[j]? = some v → w.cell? ⟨g, off + j, none⟩ = some v)
    (hu : P.underlying ty = some d) (hd : (match d with | .struct _ | .array _ _ => true | _ => false) = true) (hi : (P.info? ty).map (·.size) = some cs.length) :
    (loadVar ty ⟨g, off, none⟩).run P w = .ok (.agg cs.toArray) w := by
  have hl : (loadCells ⟨g, off, none⟩ cs.length).run P w = .ok cs.toArray w :=
    run_loadCells_list (P := P) w ⟨g, off, none⟩ cs (fun j v hv => by
      have hadd : (⟨g, off, none⟩ : Addr).add j = ⟨g, off + j, none⟩ := by unfold Addr.add; split <;> simp_all
      rw [hadd]; exact hc j v hv)
  cases hq : P.info? ty with
  | none => simp [hq] at hi
  | some i =>
    have hs : i.size = cs.length := by simpa [hq] using hi
    have hagg : (isAgg ty).run P w = .ok true w := by
      unfold isAgg
      rw [Sem.run_bind, run_underlying hu w]
      cases d <;> simp_all
    simp [loadVar, Sem.run_bind, hagg, sizeOf, typeInfo, hq, hs, hl]
theorem wpList_load_at {ops : Array Oper} {rest : List Oper} {o : Oper} {a : Act} {w : World} {Q : Exit → Act → World → Prop} (hgd : o.guard = none) (ty : TypeId) (x : Operand) (ho : o.op = .load ty x)
    (g off : Nat) (hx : a.eval x = .pointer (some ⟨g, off, none⟩)) (cs : List Value) (d : TypeDesc) (hc : ∀ j v, cs[j]? = some v → w.cell? ⟨g, off + j, none⟩ = some v)
    (hu : P.underlying ty = some d) (hd : (match d with | .struct _ | .array _ _ => true | _ => false) = true) (hi : (P.info? ty).map (·.size) = some cs.length)
    (h : wpList P ops Q rest (a.put o.dst (.agg cs.toArray)) w) : wpList P ops Q (o :: rest) a w := by
  refine wpList_plain hgd fun K hK => ?_
  unfold Oper.wp execOp
  simp only [ho, hx, Instr.loadAt, Instr.sureAddr, Sem.run_bind, Sem.run_pure, Result.andThen_ok, run_loadVar_at w g off ty cs d hc hu hd hi]
  exact hK _ _ h
theorem run_storeVar_at (w : World) (g off : Nat) (ty : TypeId) (cs : List Value) (hc : ∀ j, j < cs.length → (w.cell? ⟨g, off + j, none⟩).isSome = true) (hf : ∀ j, j < cs.length → w.frozen? ⟨g, off + j, none⟩ = false) (h1 : ∀ v ∈ cs, v.oneCell' = true)
    (hi : (P.info? ty).map (·.size) = some cs.length) :
    (storeVar ty ⟨g, off, none⟩ (.agg cs.toArray)).run P w = .ok () (w.setCells g off cs) := by
  have hst := run_storeCells_cells (P := P) g off cs 0 w (by simpa using hc) (by simpa using hf) h1
  rw [Nat.add_zero] at hst
  cases hq : P.info? ty with
  | none => simp [hq] at hi
  | some i =>
    have hs : cs.length = i.size := by simp [hq] at hi; omega
    simp [storeVar, sizeOf, typeInfo, hq, Value.cells, hs, hst]
theorem wpList_store_at {ops : Array Oper} {rest : List Oper} {o : Oper} {a : Act} {w : World} {Q : Exit → Act → World → Prop} (hgd : o.guard = none) (ty : TypeId) (x y : Operand) (ho : o.op = .store ty x y)
    (g off : Nat) (cs : List Value) (hx : a.eval x = .pointer (some ⟨g, off, none⟩)) (hy : a.eval y = .agg cs.toArray)
    (hc : ∀ j, j < cs.length → (w.cell? ⟨g, off + j, none⟩).isSome = true) (hf : ∀ j, j < cs.length → w.frozen? ⟨g, off + j, none⟩ = false) (h1 : ∀ v ∈ cs, v.oneCell' = true)
    (hi : (P.info? ty).map (·.size) = some cs.length)
    (h : wpList P ops Q rest (a.put o.dst undef) (w.setCells g off cs)) : wpList P ops Q (o :: rest) a w := by
  refine wpList_plain hgd fun K hK => ?_
  unfold Oper.wp execOp
  simp only [ho, hx, hy, Instr.storeAt, Instr.sureAddr, Sem.run_bind, Sem.run_pure, Result.andThen_ok, run_storeVar_at w g off ty cs hc hf h1 hi]
  exact hK _ _ h
end

/-- The cells of the empty book. -/
def book0 : List Value := List.replicate 257 (.slice none 0 0)
theorem book0_length : book0.length = 257 := List.length_replicate
theorem book0_zero (W : World) : Sem.run Tryd.prog (zeroValue 92) W = .ok (.agg book0.toArray) W := by kernel_rfl
theorem book_size : (Tryd.prog.info? 92).map (·.size) = some 257 := by kernel_rfl
theorem book0_at (w : World) (T : TypeId) (u : Nat) (hu : u < 257) : (w.alloc (.cells book0.toArray T)).cell? ⟨w.heap.size, u, none⟩ = some (.slice none 0 0) := by
  rw [World.cell?_alloc_new]
  show book0.toArray[u]? = _
  rw [List.getElem?_toArray]
  unfold book0
  rw [List.getElem?_replicate, if_pos hu]

theorem BookAt.kept {S : Nat → Prop} {a b : World} {bb M : Nat} {hv : Nat → Value} {H : Nat → List Ent} (h : BookAt a bb M hv H) (hk : Kept S a b) (hS : ¬ S bb) (hn : ∀ u k, u < 257 → (hv u).ownBlock = some k → ¬ S k) : BookAt b bb M hv H :=
  have hbb : bb < a.heap.size := World.block_lt_of_cell? a _ (h.cell 0 (by omega))
  ⟨fun u hu => (hk.cell (p := ⟨bb, u, none⟩) hbb hS).trans (h.cell u hu), fun u => (hk.frozen (p := ⟨bb, u, none⟩) hbb hS).trans (h.free u), fun u hu => (h.row u hu).kept hk (hn u · hu), h.apart, h.asc, h.len, h.user⟩
/-- A pointer to a book of at most M entries a user, which holds the rows H. -/
def BookV (w : World) (v : Value) (M : Nat) (H : Nat → List Ent) : Prop := ∃ bb hv, v = .pointer (some ⟨bb, 0, none⟩) ∧ BookAt w bb M hv H ∧ Rows2 H
theorem BookV.kept {a b : World} {v : Value} {M : Nat} {H : Nat → List Ent} (h : BookV a v M H) (hk : Kept (fun _ => False) a b) : BookV b v M H := by
  obtain ⟨bb, hv, rfl, h1, h2⟩ := h
  exact ⟨bb, hv, rfl, h1.kept hk (fun h => h) (fun _ _ _ _ h => h), h2⟩
theorem BookV.more {w : World} {v : Value} {M N : Nat} {H : Nat → List Ent} (h : BookV w v M H) (hN : M ≤ N) : BookV w v N H := by
  obtain ⟨bb, hv, rfl, h1, h2⟩ := h
  exact ⟨bb, hv, rfl, ⟨h1.cell, h1.free, h1.row, h1.apart, h1.asc, fun u hu => Nat.le_trans (h1.len u hu) hN, h1.user⟩, h2⟩

theorem book0_free (w : World) (T : TypeId) (u : Nat) : (w.alloc (.cells book0.toArray T)).frozen? ⟨w.heap.size, u, none⟩ = false := by
  generalize book0.toArray = cs
  go_simp
theorem book0_new (w : World) (T : TypeId) : BookAt (w.alloc (.cells book0.toArray T)) w.heap.size 0 (fun _ => .slice none 0 0) (fun _ => []) :=
  ⟨fun u hu => book0_at w T u hu, fun u => book0_free w T u, fun u hu => Or.inl ⟨rfl, rfl⟩, fun u k hu h => by simp [Value.ownBlock] at h, fun u hu i j _ h => by simp at h, fun u hu => Nat.le_refl _, fun u hu x hx => by simp at hx⟩

set_option maxRecDepth 100000 in
set_option maxHeartbeats 3200000 in
theorem mnew_at (w : World) : Calls Tryd.prog 13 #[] w fun e w' => e = .returned (.pointer (some ⟨w.heap.size, 0, none⟩)) ∧ BookAt w' w.heap.size 0 (fun _ => .slice none 0 0) (fun _ => []) ∧ Kept (fun _ => False) w w' := by
  have hz := fun W => book0_zero W
  have HB := Lib.hid (book0_new w 92)
  have HK := Lib.hid (Kept.alloc (fun _ => False) w (.cells book0.toArray 92))
  go_enter Tryd.func13, Tryd.ntmps13
  go_wp2_with fail
  go_ret
  exact ⟨rfl, HB.out, HK.out⟩
theorem mnew_any (w : World) : Calls Tryd.prog 13 #[] w fun e w' => ∃ v, e = .returned v ∧ BookV w' v 0 (fun _ => []) ∧ Kept (fun _ => False) w w' := by
  refine (mnew_at w).mono ?_
  rintro e w' ⟨rfl, h, k⟩
  exact ⟨_, rfl, ⟨_, _, rfl, h, Rows2.nil⟩, k⟩
end Go.Proofs.YtccanbjnbmihgaaDoor
