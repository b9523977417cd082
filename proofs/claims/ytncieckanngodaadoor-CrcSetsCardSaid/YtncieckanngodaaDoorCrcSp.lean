/-
  arbaclaw04.CrcSets: plain words (the set of a list of numbers, its record, the records framed), and what its loops keep.
-/
import Derived.Test.YtncieckanngodaaDoorLH
import Derived.Test.YtncieckanngodaaDoorSR
import Derived.Test.YtncieckanngodaaDoorBackN
import Derived.Test.YtncieckanngodaaDoorCrcT
import Derived.Test.YtncieckanngodaaDoorOfN
import Derived.Test.YtncieckanngodaaDoorWriter
import Derived.Test.YtncieckanngodaaDoorEqual
namespace Go.Proofs.YtncieckanngodaaDoor
open Go.RowKit

/-- The set of the numbers modulo 512. -/
def maskH (ys : List Nat) : Nat := ys.foldl (fun M v => M ||| 2 ^ (v % 512)) 0
theorem maskH_take (ys : List Nat) (k : Nat) (h : k < ys.length) : maskH (ys.take (k + 1)) = maskH (ys.take k) ||| 2 ^ (ys.getD k 0 % 512) := by
  rw [List.take_succ_eq_append_getElem h, maskH, List.foldl_append]
  simp [maskH, List.getD, h]
theorem maskH_small (ys : List Nat) : Small (maskH ys) := by
  have key : ∀ (l : List Nat) (M : Nat), Small M → Small (l.foldl (fun M v => M ||| 2 ^ (v % 512)) M) := by
    intro l
    induction l with
    | nil => intro M h; exact h
    | cons x t ih => intro M h; exact ih _ (small_with h (by omega))
  exact key ys 0 (fun e _ => Nat.pow_pos (by omega))

/-- A set's record. -/
def payM (M : Nat) : List Nat := enc (bytesOf M).length ++ bytesOf M
/-- The first k sets. -/
def MsN (F : Nat → List Nat) (k : Nat) : List Nat := (List.range k).map fun i => maskH ((F i).take 20)
theorem MsN_succ (F : Nat → List Nat) (k : Nat) : MsN F (k + 1) = MsN F k ++ [maskH ((F k).take 20)] := by simp [MsN, List.range_succ]
theorem MsN_length (F : Nat → List Nat) (k : Nat) : (MsN F k).length = k := by simp [MsN]
theorem MsN_small (F : Nat → List Nat) (k i : Nat) : Small ((MsN F k).getD i 0) := by
  by_cases h : i < k
  · have : (MsN F k).getD i 0 = maskH ((F i).take 20) := by simp [MsN, List.getD, h]
    rw [this]; exact maskH_small _
  · have : (MsN F k).getD i 0 = 0 := by simp [MsN, List.getD, h]
    rw [this]; exact fun e _ => Nat.pow_pos (by omega)
/-- The first k records. -/
def payN (F : Nat → List Nat) (k : Nat) : List (List Nat) := (MsN F k).map payM
theorem payN_succ (F : Nat → List Nat) (k : Nat) : payN F (k + 1) = payN F k ++ [payM (maskH ((F k).take 20))] := by simp [payN, MsN_succ]
theorem payN_length (F : Nat → List Nat) (k : Nat) : (payN F k).length = k := by simp [payN, MsN_length]

theorem payM_byte (M : Nat) : ∀ b ∈ payM M, b < 256 := by
  intro b hb
  rcases List.mem_append.1 hb with h | h
  · exact enc_byte _ b h
  · exact bytesOf_byte M b h
theorem payM_len {M : Nat} (h : Small M) : (payM M).length ≤ 600 := by
  have h1 := bytesOf_length h
  have h2 := enc_len (v := (bytesOf M).length) (by omega)
  unfold payM
  rw [List.length_append]; omega
theorem frsPay_len (F : Nat → List Nat) : ∀ k, (frs (payN F k)).length ≤ 608 * k
  | 0 => by simp [payN, MsN, frs]
  | k + 1 => by
    rw [payN_succ, frs_snoc, List.length_append, frameS_length]
    have := frsPay_len F k
    have := payM_len (maskH_small ((F k).take 20))
    omega

theorem LH.cut {w : World} {a : Option Addr} {c : Nat} {f : Nat → Value} {F : Nat → List Nat} {N B : Nat} (h : LH w (.slice a N c) f F N B) (K : Nat) (hK : K ≤ N) : LH w (.slice a K c) f F K B := by
  rcases h with ⟨⟨a', c', h, hc⟩, rfl⟩ | ⟨g, off, cap, h, hc, h3⟩
  · obtain rfl : K = 0 := by omega
    cases h
    exact Or.inl ⟨⟨_, _, rfl, hc⟩, rfl⟩
  · cases h
    exact Or.inr ⟨g, off, _, rfl, by omega, fun i hi => h3 i (by omega)⟩

/-- What the first loop keeps: all frames, and the sets. -/
structure SetsInv (w wr : World) (F : Nat → List Nat) (sv av : Value) (k : Nat) : Prop where
  all : Fresh wr w.heap.size av (frs (payN F k))
  ex : ∃ vs, SetsR wr w.heap.size sv vs (MsN F k) ∧ ∀ i, i < k → ∀ j, setBlk (pairV (vs.getD i (0, undef))) j → av.ownBlock ≠ some j ∧ w.heap.size ≤ j
  apart : ∀ j, av.ownBlock = some j → sv.ownBlock ≠ some j
  kept : Kept (fun _ => False) w wr

theorem SetsInv.start (w w0 : World) (F : Nat → List Nat) (hk : Kept (fun _ => False) w w0) : SetsInv w w0 F (.slice none 0 0) (.slice none 0 0) 0 :=
  ⟨⟨World.ownsRow_nil _ _ _ _, by intro k hk; simp [Value.ownBlock] at hk⟩, ⟨[], SetsR.nil _ _, fun i hi => by omega⟩, by intro k hk; simp [Value.ownBlock] at hk, hk⟩

/-- A set in a block of two cells. -/
structure BoxS (w : World) (g : Nat) (p : Nat × Value) (M : Nat) : Prop where
  c0 : w.cell? ⟨g, 0, none⟩ = some (.int .u64 p.1)
  c1 : w.cell? ⟨g, 1, none⟩ = some p.2
  f0 : w.frozen? ⟨g, 0, none⟩ = false
  f1 : w.frozen? ⟨g, 1, none⟩ = false
  lt : g < w.heap.size
  set : SetV w (pairV p) M
  apart : ∀ k, setBlk (pairV p) k → k ≠ g

theorem BoxS.kept {S : Nat → Prop} {a b : World} {g : Nat} {p : Nat × Value} {M : Nat} (h : BoxS a g p M) (hk : Kept S a b) (hS : ∀ k, k < a.heap.size → ¬ S k) : BoxS b g p M :=
  ⟨(hk.cell (p := ⟨g, 0, none⟩) h.lt (hS g h.lt)).trans h.c0, (hk.cell (p := ⟨g, 1, none⟩) h.lt (hS g h.lt)).trans h.c1,
   (hk.frozen (p := ⟨g, 0, none⟩) h.lt (hS g h.lt)).trans h.f0, (hk.frozen (p := ⟨g, 1, none⟩) h.lt (hS g h.lt)).trans h.f1,
   Nat.lt_of_lt_of_le h.lt hk.size, h.set.kept hk (fun k hb => hS k (h.set.lt k hb)), h.apart⟩

/-- Another set is laid into the block. -/
theorem BoxS.put {a : World} {g : Nat} {p q : Nat × Value} {M N : Nat} (h : BoxS a g p M) (hq : SetV a (pairV q) N) (ha : ∀ k, setBlk (pairV q) k → k ≠ g) :
    BoxS ((a.setCell ⟨g, 0, none⟩ (.int .u64 (q.1 : Int))).setCell ⟨g, 1, none⟩ q.2) g q N := by
  have k2 : Kept (fun k => k = g) a ((a.setCell ⟨g, 0, none⟩ (.int .u64 (q.1 : Int))).setCell ⟨g, 1, none⟩ q.2) := (Kept.setCell (fun k => k = g) a ⟨g, 0, none⟩ _ rfl).trans (Kept.setCell (fun k => k = g) _ ⟨g, 1, none⟩ _ rfl) (fun _ _ h => h) (fun _ _ h => h)
  refine ⟨?_, ?_, ?_, ?_, Nat.lt_of_lt_of_le h.lt k2.size, hq.kept k2 ha, ha⟩
  · rw [World.cell?_setCell_other _ _ _ _ (fun e => by simp at e)]
    exact World.cell?_setCell_same _ _ _ h.c0
  · exact World.cell?_setCell_same _ _ _ ((World.cell?_setCell_other _ _ _ _ (fun e => by simp at e)).trans h.c1)
  · rw [World.frozen?_setCell, World.frozen?_setCell]; exact h.f0
  · rw [World.frozen?_setCell, World.frozen?_setCell]; exact h.f1
end Go.Proofs.YtncieckanngodaaDoor
