/-
  slices.AppendSeq over an iterator of ints: every element that comes is appended, in its order.
-/
import Derived.Test.YtccanbjnbmihgaaDoorCore
import Derived.Test.YtccanbjnbmihgaaDoorRows
import Derived.RangeFuncNested
import Derived.RangeFuncBox
import Derived.RangeFuncLeaves
import Derived.Shelf.Abstract
import Derived.Shelf.RegionOpen
import Derived.OwnWalkIn
import Derived.TacticsInMore
import Derived.LoopNIn
import Derived.LoopIn
import Derived.Maps.AppendAt
import Derived.Maps.OwnIn
namespace Go.Proofs.YtccanbjnbmihgaaDoor
open Go.RowKit Go.Shelf
attribute [local go_sem] Oper.semAt_some

/-- But for the blocks in S, what lies below M is as it was. -/
structure KeepM (S : Nat → Prop) (M : Nat) (a b : World) : Prop where
  os : b.os = a.os
  tape : b.tape = a.tape
  output : b.output = a.output
  size : a.heap.size ≤ b.heap.size
  block : ∀ k, k < M → k < a.heap.size → ¬ S k → b.heap[k]? = a.heap[k]?
theorem KeepM.refl (S : Nat → Prop) (M : Nat) (a : World) : KeepM S M a a := ⟨rfl, rfl, rfl, Nat.le_refl _, fun _ _ _ _ => rfl⟩
theorem KeepM.trans {S : Nat → Prop} {M : Nat} {a b c : World} (h : KeepM S M a b) (k : KeepM S M b c) : KeepM S M a c :=
  ⟨k.os.trans h.os, k.tape.trans h.tape, k.output.trans h.output, Nat.le_trans h.size k.size, fun i h1 h2 h3 => (k.block i h1 (Nat.lt_of_lt_of_le h2 h.size) h3).trans (h.block i h1 h2 h3)⟩
theorem KeepM.grown {S : Nat → Prop} {M : Nat} {a b : World} {row : Option Nat} (hg : a.grownBy b row) (hr : ∀ r, row = some r → M ≤ r ∨ S r) : KeepM S M a b :=
  ⟨hg.os, hg.tape, hg.output, hg.size, fun k h1 h2 h3 => hg.block k h2 fun e => by
    rcases hr k e.symm with h | h
    · omega
    · exact h3 h⟩
theorem KeepM.putB {S : Nat → Prop} {M : Nat} (W : World) (l : Nat) (o o' : Obj) (hl : M ≤ l) (_h : W.heap[l]? = some o) (_ : o.isCells = false) (_ : o.isWalk = false) : KeepM S M W (W.putObj l o') :=
  KeepM.grown (grownBy_putObj' W l o') (fun r e => by cases e; exact Or.inl hl)
theorem ownFrom_keepM {β : Type} {S : Nat → Prop} {M B : Nat} {w₀ : World} (hB : M ≤ B) : OwnFrom B (fun (_ : β) W => KeepM S M w₀ W) :=
  fun _ _ _ _ hs hg hr => hs.trans (KeepM.grown hg (fun r e => Or.inl (Nat.le_trans hB (hr r e).1)))
theorem KeepM.kept {S : Nat → Prop} {M : Nat} {a b : World} (h : KeepM S M a b) (hM : a.heap.size ≤ M) : Kept S a b :=
  ⟨h.os, h.tape, h.output, h.size, fun k h1 h2 => h.block k (by omega) h1 h2⟩

theorem info_int9 : (Tryd.prog.info? 3).map (fun i => (i.zero, i.size, i.bytes)) = some (some (.int .i64 0), 1, 8) := by kernel_rfl

/-- Where the row lies that AppendSeq gathers. -/
def RowAt (v0 : Value) (M : Nat) (v : Value) : Prop := ∀ k, v.ownBlock = some k → blk v0 k ∨ M ≤ k

set_option maxRecDepth 100000 in
set_option maxHeartbeats 3200000 in
theorem appendSeq_any (lb : Array Value) (xs : List Int) (va : Option Addr) (vc : Nat) (w : World)
    (hseq : ∀ S M, M = w.heap.size + 1 → (∀ k, S k → k = w.heap.size ∨ blk (.slice va 0 vc) k) → SeqStopsK Fence.wide 2 Tryd.prog 86 lb (fun x : Int => #[Value.int .i64 x]) (KeepM S M) (fun ys => ys = xs) (fun pre => pre <+: xs) xs.length w)
    (hlen : xs.length ≤ 1000000) (hrow : w.ownsRow 0 3 1 (.slice va 0 vc) 0 []) :
    Calls Tryd.prog 59 #[.slice va 0 vc, .func (.func 86) #[] lb] w fun e W' => ∃ v, e = .returned v ∧ W'.ownsRow 0 3 1 v xs.length (xs.map (Value.int .i64)) ∧ RowAt (.slice va 0 vc) w.heap.size v ∧ Kept (blk (.slice va 0 vc)) w W' := by
  refine (callsIn_wide (n := 3)).1 ?_
  obtain ⟨i0, hi, hz0, hz1, hz2⟩ := info_parts info_int9
  have hbl : ∀ k, blk (.slice va 0 vc) k → k < w.heap.size := fun k hk => (hrow.lt k hk).2
  refine callsIn_of_wp_marks Tryd.func59 rfl trivial ?_ rfl
  simp only [Tryd.ntmps59, List.size_toArray, List.length_cons, List.length_nil, Nat.reduceAdd, Nat.reduceSub, Array.replicate_succ, Array.replicate_zero, List.push_toArray, List.append_toArray, List.nil_append, List.cons_append]
  gi_wp2
  have bO := Boxed.new w 52 (.slice va 0 vc)
  have hS := hseq (fun k => k = w.heap.size ∨ blk (.slice va 0 vc) k) (w.heap.size + 1) rfl (fun _ h => h)
  have hsz : (w.alloc (.cells #[.slice va 0 vc] 52)).heap.size = w.heap.size + 1 := by simp
  refine wpIn_rangeFunc_ownG rfl (by omega) (gf := 86) (lb := lb) rfl trivial (enters_of Tryd.func86 (by kernel_rfl) rfl)
    hS KeepM.trans (fun W l o o' hl h h1 h2 => KeepM.putB W l o o' (by rw [hsz] at hl; exact hl) h h1 h2) ((Below.refl _ w).alloc (Nat.le_refl _) _) (fun _ => rfl)
    (fun pre W => (∃ v, Boxed W w.heap.size 52 v ∧ W.ownsRow 0 3 1 v pre.length (pre.map (Value.int .i64)) ∧ RowAt (.slice va 0 vc) (w.heap.size + 1) v) ∧ KeepM (fun k => k = w.heap.size ∨ blk (.slice va 0 vc) k) (w.heap.size + 1) (w.alloc (.cells #[.slice va 0 vc] 52)) W)
    (fun _ _ _ => False)
    (OwnFrom.and (Own.from (holdsRow_own 0 w.heap.size 52 3 1 (fun pre : List Int => pre.length) (fun pre : List Int => pre.map (Value.int .i64)) (fun (pre : List Int) v => RowAt (.slice va 0 vc) (w.heap.size + 1) v)) _) (ownFrom_keepM (by rw [hsz]; exact Nat.le_refl _)))
    (fun _ _ _ _ _ hs _ _ => hs)
    ⟨⟨.slice va 0 vc, bO, hrow.alloc _, fun k hk => Or.inl hk⟩, KeepM.refl _ _ _⟩
    (fun x => { tmps := #[.slice va 0 vc, .func (.func 86) #[] lb, .pointer (some ⟨w.heap.size, 0, none⟩), undef, .slice none 0 0, .int .i64 x, .func (.func 86) #[] lb, .int .i64 x, undef, undef, undef, undef, undef], defers := [] }) ?assign ?body ?done ?stop
  case assign =>
    intro l x W K hK
    gi_wp2
    exact hK
  case body =>
    rintro l pre x W ⟨⟨v, hv, hrowv, hat⟩, hB⟩ hlt
    have hc := hv.cell
    have hBs := hB.size
    rw [hsz] at hBs
    gi_wp2_with (gi_at_builtin; refine wpListIn_append_own_at _ rfl _ _ 52 rfl 0 3 i0 (.int .i64 0) 1 8 Tryd.underlying52 hi hz0 hz1 hz2 rfl (by decide) _ _ _ rfl (hrowv.alloc _) ⟨W.heap.size, 0, none⟩ 1 1 [.int .i64 x] rfl rfl (cell_one_new _ _ _) (by simp [Value.oneCell']) (by unfold maxLen; omega) (by omega) (Nat.zero_le _) ?_; intro v' w1 hown' hgrow _ hloc; obtain ⟨g', cap', rfl⟩ := ownsRow_succ hown'; obtain ⟨hv1, hv2, hr2, hk2, _⟩ := hv.appended (by decide) hrowv (Nat.zero_le _) (Nat.zero_le _) hown' hgrow; have hc1 := hv1.cell; have hf1 := hv1.frozen)
    have hkm : KeepM (fun k => k = w.heap.size ∨ blk (.slice va 0 vc) k) (w.heap.size + 1) W (w1.setCell ⟨w.heap.size, 0, none⟩ (.slice (some ⟨g', 0, none⟩) (pre.length + 1) cap')) :=
      ((KeepM.grown (World.grownBy_alloc W _ none) (fun r e => by cases e)).trans (KeepM.grown hgrow (fun r e => by
        rcases hat r e with h | h
        · exact Or.inr (Or.inr h)
        · exact Or.inl h))).trans (KeepM.grown (grownBy_setCell' w1 w.heap.size _) (fun r e => by cases e; exact Or.inr (Or.inl rfl)))
    refine ⟨hk2.from _, hkm, ⟨_, hv2, by simpa using hr2, fun k hk => ?_⟩, hB.trans hkm⟩
    rcases hloc with h | h
    · exact hat k (show v.ownBlock = some k from h.symm.trans hk)
    · rw [h] at hk
      have : k = W.heap.size + 1 := by simpa using hk.symm
      exact Or.inr (by omega)
  case done =>
    rintro D ys W hD rfl ⟨⟨v, hv, hrowv, hat⟩, hB⟩ hK
    have hc := hv.cell
    gi_wp2
    refine ⟨by simp, .inl ⟨_, _, rfl, run_takeDeferred hK, ?_⟩⟩
    rw [hsz] at hD
    have hfin : Kept (blk (.slice va 0 vc)) w (W.putObj D (.deferred none)) := by
      have h2 := hB.trans (KeepM.putB W D _ (.deferred none) hD hK rfl rfl)
      exact (Kept.alloc (fun _ => False) w _).trans (h2.kept (by rw [hsz]; exact Nat.le_refl _)) (fun _ _ h => h.elim) (fun i hi h => h.resolve_left (by omega))
    exact ⟨_, results_tmp rfl _ _ _, v, rfl, ownsRow_putObj hrowv _ hK rfl, fun k hk => (hat k hk).imp id (fun h => by omega), hfin⟩
  case stop =>
    rintro D c pre W _ _ h _
    exact h.elim
end Go.Proofs.YtccanbjnbmihgaaDoor
