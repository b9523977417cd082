/-
  arbaclaw04.CrcSets: what a round of its first loop turns (a set joins the row of sets, a frame joins the bytes).
-/
import Derived.Test.YtncieckanngodaaDoorCrcSp
namespace Go.Proofs.YtncieckanngodaaDoor
open Go.RowKit

theorem info_bset : (Tryd.prog.info? 54).map (fun i => (i.zero, i.size, i.bytes)) = some (some (.agg #[.int .u64 0, .slice none 0 0]), 2, 32) := by kernel_rfl

/-- The row of sets and the bytes, side by side. -/
structure Side (w wr : World) (sv av : Value) (vs : List (Nat × Value)) (Ms zs : List Nat) : Prop where
  all : Fresh wr w.heap.size av zs
  sets : SetsR wr w.heap.size sv vs Ms
  el : ∀ i, i < Ms.length → ∀ j, setBlk (pairV (vs.getD i (0, undef))) j → av.ownBlock ≠ some j ∧ w.heap.size ≤ j
  apart : ∀ j, av.ownBlock = some j → sv.ownBlock ≠ some j
  kept : Kept (fun _ => False) w wr

theorem Side.then {w a b : World} {sv av : Value} {vs : List (Nat × Value)} {Ms zs : List Nat} (h : Side w a sv av vs Ms zs) (hk : Kept (fun _ => False) a b) : Side w b sv av vs Ms zs :=
  ⟨⟨hk.owns h.all.own (fun _ _ h => h), h.all.block⟩, h.sets.kept hk (fun _ _ h => h), h.el, h.apart, h.kept.then hk⟩

theorem getD_snoc_lt {α : Type} (l : List α) (x d : α) (i : Nat) (h : i < l.length) : (l ++ [x]).getD i d = l.getD i d := by simp [List.getD, List.getElem?_append_left h]
theorem getD_snoc_eq {α : Type} (l : List α) (x d : α) : (l ++ [x]).getD l.length d = x := by simp [List.getD]

/-- A set joins the row. -/
theorem Side.push {w a b : World} {sv sv' av : Value} {vs : List (Nat × Value)} {Ms zs : List Nat} {p : Nat × Value} {M : Nat} (h : Side w a sv av vs Ms zs) (hp : SetV a (pairV p) M)
    (hn : ∀ k, setBlk (pairV p) k → w.heap.size ≤ k ∧ sv.ownBlock ≠ some k ∧ av.ownBlock ≠ some k) (kp : Kept (blk sv) a b)
    (hown : b.ownsRow w.heap.size 54 2 sv' (vs.length + 1) (flatS vs ++ [.int .u64 (p.1 : Int), p.2])) (hat : sv'.ownBlock = sv.ownBlock ∨ ∀ k, sv'.ownBlock = some k → a.heap.size ≤ k) : Side w b sv' av (vs ++ [p]) (Ms ++ [M]) zs := by
  have hl := h.sets.len
  refine ⟨⟨kp.owns h.all.own (fun j hj e => h.apart j hj e), h.all.block⟩, h.sets.push hp (fun k hk => (hn k hk).2.1) kp hown hat, fun i hi j hj => ?_, fun j hj e => ?_, h.kept.trans kp (fun _ _ h => h) (fun i hi e => by have := (h.sets.own.lt i e).1; omega)⟩
  · by_cases h1 : i < Ms.length
    · rw [getD_snoc_lt _ _ _ _ (by omega)] at hj
      exact h.el i h1 j hj
    · obtain rfl : i = vs.length := by simp at hi; omega
      rw [getD_snoc_eq] at hj
      exact ⟨(hn j hj).2.2, (hn j hj).1⟩
  · rcases hat with h1 | h1
    · rw [h1] at e; exact h.apart j hj e
    · have := h1 j e; have := (h.all.own.lt j hj).2; omega

/-- Bytes join the bytes. -/
theorem Side.more {w a b : World} {sv av av' : Value} {vs : List (Nat × Value)} {Ms zs zs' : List Nat} (h : Side w a sv av vs Ms zs) (kp : Kept (blk av) a b) (hf : Fresh b w.heap.size av' zs') (hat : av'.ownBlock = av.ownBlock ∨ ∀ k, av'.ownBlock = some k → a.heap.size ≤ k) : Side w b sv av' vs Ms zs' := by
  refine ⟨hf, ⟨kp.owns h.sets.own (fun k hb e => h.apart k e hb), h.sets.len, fun i hi => (h.sets.el i hi).kept kp (fun k hb e => (h.el i hi k hb).1 e), h.sets.apart⟩, fun i hi j hj => ⟨fun e => ?_, (h.el i hi j hj).2⟩, fun j hj e => ?_, h.kept.trans kp (fun _ _ h => h) (fun i hi e => by have := (h.all.own.lt i e).1; omega)⟩
  · rcases hat with h1 | h1
    · rw [h1] at e; exact (h.el i hi j hj).1 e
    · have := h1 j e; have := (h.sets.el i hi).lt j hj; omega
  · rcases hat with h1 | h1
    · rw [h1] at hj; exact h.apart j hj e
    · have := h1 j hj; have := (h.sets.own.lt j e).2; omega

theorem SetsInv.side {w wr : World} {F : Nat → List Nat} {sv av : Value} {k : Nat} (h : SetsInv w wr F sv av k) : ∃ vs, Side w wr sv av vs (MsN F k) (frs (payN F k)) := by
  obtain ⟨vs, h1, h2⟩ := h.ex
  exact ⟨vs, h.all, h1, fun i hi => h2 i (by rw [MsN_length] at hi; exact hi), h.apart, h.kept⟩

theorem Side.inv {w wr : World} {F : Nat → List Nat} {sv av : Value} {k : Nat} {vs : List (Nat × Value)} (h : Side w wr sv av vs (MsN F k) (frs (payN F k))) : SetsInv w wr F sv av k :=
  ⟨h.all, ⟨vs, h.sets, fun i hi => h.el i (by rw [MsN_length]; exact hi)⟩, h.apart, h.kept⟩
end Go.Proofs.YtncieckanngodaaDoor
