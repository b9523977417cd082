/-
  Bytes in memory for the CRC proofs: slices.Clone, slices.Equal, arbaclaw04.few; crc.field, crc.appendField.
-/
import Derived.Test.YtdmnanocmpkhjaaDoorCrcW
import Derived.Test.YtdmnanocmpkhjaaDoorMake
import Derived.Maps.AppendAt
import Derived.Laws.AppendOwnNone
import Derived.Deep.AppendLies
namespace Go.Proofs.YtdmnanocmpkhjaaDoor
open Go.RowKit

theorem bv_at8 (xs : List Nat) (i : Nat) (h : i < xs.length) : (bv xs)[i]? = some (.int .u8 (xs.getD i 0 : Nat)) := by simp [bv, List.getD, h]
theorem take_eq_succ8 {xs ys : List Nat} {k : Nat} (h : xs.take k = ys.take k) (hx : k < xs.length) (hy : k < ys.length) (he : xs.getD k 0 = ys.getD k 0) : xs.take (k + 1) = ys.take (k + 1) := by
  rw [take_snoc xs k hx, take_snoc ys k hy, h, he]

theorem info_u8c : (Tryd.prog.info? 5).map (fun i => (i.zero, i.size, i.bytes)) = some (some (.int .u8 0), 1, 1) := by kernel_rfl

theorem Reads.takeV {w : World} {xs : List Nat} {a : Option Addr} {c : Nat} (n : Nat) (h : Reads w (.slice a xs.length c) xs) (hn : n ≤ xs.length) : Reads w (.slice a n c) (xs.take n) := by
  rcases h with ⟨h, rfl⟩ | ⟨g, off, cap, h, h1, h2, h3, h4⟩
  · cases h
    have : n = 0 := by simpa using hn
    subst this
    exact Or.inl ⟨rfl, rfl⟩
  · cases h
    exact Reads.take n (Or.inr ⟨g, off, c, rfl, h1, h2, h3, h4⟩) hn

theorem or32 (a b y : Nat) (ha : a < 2 ^ 32) (hb : b < 2 ^ 32) (h : y = a ||| b) : bits .or .u32 (a : Int) (b : Int) = (y : Int) := by
  rw [u32_or_nat _ _ (by omega) (by omega), h]

theorem getD8 {xs : List Nat} (h : ∀ x ∈ xs, x < 256) (i : Nat) : xs.getD i 0 < 256 := getD_byte h i

/-- What a step on a row of one's own leaves: all but the row is as it was; a new row is a new block. -/
structure BStep (w w' : World) (v v' : Value) : Prop where
  kept : Kept (blk v) w w'
  row : v'.ownBlock = v.ownBlock ∨ ∀ k, v'.ownBlock = some k → w.heap.size ≤ k

theorem BStep.refl (w : World) (v : Value) : BStep w w v v := ⟨Kept.refl _ _, Or.inl rfl⟩
theorem BStep.trans {a b c : World} {u v x : Value} (h : BStep a b u v) (k : BStep b c v x) : BStep a c u x := by
  refine ⟨h.kept.trans k.kept (fun i _ h => h) (fun i hi hs => ?_), ?_⟩
  · rcases h.row with hr | hr
    · unfold blk at hs ⊢; rw [← hr]; exact hs
    · have := hr i hs; omega
  · rcases k.row with kr | kr
    · rw [kr]; exact h.row
    · exact Or.inr fun i hi => Nat.le_trans h.kept.size (kr i hi)

theorem le4_take (n k : Nat) (hk : k < 4) : (le4 n).take (k + 1) = (le4 n).take k ++ [n / 256 ^ k % 256] := by
  match k, hk with
  | 0, _ => simp [le4]
  | 1, _ => simp [le4]
  | 2, _ => simp [le4]
  | 3, _ => simp [le4]

end Go.Proofs.YtdmnanocmpkhjaaDoor
