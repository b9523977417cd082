/- The first texts of this claim, one behind the other. -/
import Derived.Test.YtndedphkgkmckaaDoorQMe
import Derived.Test.YtndedphkgkmckaaDoorOf
import Derived.Test.YtndedphkgkmckaaDoorPaNm
import Derived.Test.YtndedphkgkmckaaDoorPaMk
import Derived.Test.YtndedphkgkmckaaDoorPaAk
import Derived.Test.YtndedphkgkmckaaDoorPaX
import Derived.Deep.RegionHeld3
import Derived.Deep.MidRow
import Derived.Deep.AppendLies
/-
  A row of sets of the call's own (two cells an element).
-/
namespace Go.Proofs.YtndedphkgkmckaaDoor
open Go.RowKit

theorem SetV.kept {S : Nat → Prop} {a b : World} {v : Value} {M : Nat} (h : SetV a v M) (hk : Kept S a b) (hn : ∀ k, setBlk v k → ¬ S k) : SetV b v M := by
  obtain ⟨hv, hs, he, hw, hc, hnil⟩ := h.ex
  exact ⟨⟨hv, hs, he, hw.kept hk (fun k hk' => hn k ⟨_, _, he, hk'⟩), hc, hnil⟩⟩

theorem SetV.lt {w : World} {v : Value} {M : Nat} (h : SetV w v M) : ∀ k, setBlk v k → k < w.heap.size := by
  obtain ⟨hv, hs, he, hw, hc, hnil⟩ := h.ex
  rintro k ⟨lo, hv', he', hb⟩
  rw [he] at he'
  cases he'
  exact hw.lt k hb

theorem SetV.form {w : World} {v : Value} {M : Nat} (h : SetV w v M) : ∃ (lo : Nat) (a : Option Addr) (n c : Nat), v = .agg #[.int .u64 lo, .slice a n c] := by
  obtain ⟨hv, hs, he, hw, hc, hnil⟩ := h.ex
  obtain ⟨a, c, e⟩ := hw.form
  exact ⟨_, a, _, c, by rw [he, e]⟩

/-- A set of its low word and its further words. -/
def pairV (p : Nat × Value) : Value := .agg #[.int .u64 p.1, p.2]
/-- The cells of a list of sets. -/
def flatS (vs : List (Nat × Value)) : List Value := vs.flatMap fun p => [.int .u64 (p.1 : Int), p.2]

theorem flatS_append (a b : List (Nat × Value)) : flatS (a ++ b) = flatS a ++ flatS b := by simp [flatS]
theorem flatS_length (vs : List (Nat × Value)) : (flatS vs).length = 2 * vs.length := by
  induction vs with
  | nil => rfl
  | cons x t ih =>
    have : flatS (x :: t) = [.int .u64 (x.1 : Int), x.2] ++ flatS t := rfl
    rw [this, List.length_append, ih]
    simp; omega
theorem flatS_at (vs : List (Nat × Value)) : ∀ i, i < vs.length → (flatS vs)[2 * i]? = some (.int .u64 ((vs.getD i (0, undef)).1 : Int)) ∧ (flatS vs)[2 * i + 1]? = some (vs.getD i (0, undef)).2 := by
  induction vs with
  | nil => intro i hi; simp at hi
  | cons x t ih =>
    intro i hi
    have e : flatS (x :: t) = .int .u64 (x.1 : Int) :: x.2 :: flatS t := rfl
    rw [e]
    cases i with
    | zero => exact ⟨rfl, rfl⟩
    | succ j =>
      have := ih j (by simpa using hi)
      rw [show 2 * (j + 1) = 2 * j + 1 + 1 by omega]
      exact this

structure SetsR (w : World) (B : Nat) (v : Value) (vs : List (Nat × Value)) (Ms : List Nat) : Prop where
  own : w.ownsRow B 55 2 v vs.length (flatS vs)
  len : vs.length = Ms.length
  el : ∀ i, i < Ms.length → SetV w (pairV (vs.getD i (0, undef))) (Ms.getD i 0)
  apart : ∀ i, i < Ms.length → ∀ k, setBlk (pairV (vs.getD i (0, undef))) k → v.ownBlock ≠ some k

theorem SetsR.nil (w : World) (B : Nat) : SetsR w B (.slice none 0 0) [] [] :=
  ⟨World.ownsRow_nil _ _ _ _, rfl, fun i hi => by simp at hi, fun i hi => by simp at hi⟩

theorem SetsR.kept {S : Nat → Prop} {a b : World} {B : Nat} {v : Value} {vs : List (Nat × Value)} {Ms : List Nat} (h : SetsR a B v vs Ms) (hk : Kept S a b) (hS : ∀ k, k < a.heap.size → ¬ S k) : SetsR b B v vs Ms :=
  ⟨hk.owns h.own (fun k hb => hS k (h.own.lt k hb).2), h.len, fun i hi => (h.el i hi).kept hk (fun k hb => hS k ((h.el i hi).lt k hb)), h.apart⟩

theorem SetsR.push {w w1 : World} {B : Nat} {v v' : Value} {vs : List (Nat × Value)} {Ms : List Nat} {p : Nat × Value} {M : Nat} (h : SetsR w B v vs Ms) (hp : SetV w (pairV p) M) (hpa : ∀ k, setBlk (pairV p) k → v.ownBlock ≠ some k) (hk : Kept (blk v) w w1)
    (hown : w1.ownsRow B 55 2 v' (vs.length + 1) (flatS vs ++ [.int .u64 (p.1 : Int), p.2])) (hat : v'.ownBlock = v.ownBlock ∨ ∀ k, v'.ownBlock = some k → w.heap.size ≤ k) : SetsR w1 B v' (vs ++ [p]) (Ms ++ [M]) := by
  have hl := h.len
  have g1 : ∀ i, i < Ms.length → (vs ++ [p]).getD i (0, undef) = vs.getD i (0, undef) ∧ (Ms ++ [M]).getD i 0 = Ms.getD i 0 := fun i hi => by
    simp [List.getD, List.getElem?_append_left (show i < vs.length by omega), List.getElem?_append_left hi]
  have g2 : (vs ++ [p]).getD Ms.length (0, undef) = p ∧ (Ms ++ [M]).getD Ms.length 0 = M := by
    rw [← hl]
    refine ⟨by simp [List.getD], ?_⟩
    rw [hl]; simp [List.getD]
  refine ⟨by rw [List.length_append, flatS_append]; exact hown, by simp [hl], fun i hi => ?_, fun i hi k hb => ?_⟩
  · by_cases h1 : i < Ms.length
    · rw [(g1 i h1).1, (g1 i h1).2]
      exact (h.el i h1).kept hk fun k hb e => h.apart i h1 k hb e
    · obtain rfl : i = Ms.length := by simp at hi; omega
      rw [g2.1, g2.2]
      exact hp.kept hk fun k hb e => hpa k hb e
  · by_cases h1 : i < Ms.length
    · rw [(g1 i h1).1] at hb
      rcases hat with e | e
      · rw [e]; exact h.apart i h1 k hb
      · intro e2; have := e k e2; have := (h.el i h1).lt k hb; omega
    · obtain rfl : i = Ms.length := by simp at hi; omega
      rw [g2.1] at hb
      rcases hat with e | e
      · rw [e]; exact hpa k hb
      · intro e2; have := e k e2; have := hp.lt k hb; omega

/-- The cells of element i. -/
theorem SetsR.at {w : World} {B g n c : Nat} {vs : List (Nat × Value)} {Ms : List Nat} (h : SetsR w B (.slice (some ⟨g, 0, none⟩) n c) vs Ms) {i : Nat} (hi : i < Ms.length) :
    w.cell? ⟨g, 2 * i, none⟩ = some (.int .u64 ((vs.getD i (0, undef)).1 : Int)) ∧ w.cell? ⟨g, 2 * i + 1, none⟩ = some (vs.getD i (0, undef)).2 := by
  have hl := h.len
  have ho := h.own
  have hn : n = vs.length := by
    obtain ⟨_, hh⟩ := ho
    rcases hh with ⟨e, _⟩ | ⟨g', cap', cur, e, _⟩
    · cases e
    · cases e; rfl
  subst hn
  have ⟨a, b⟩ := flatS_at vs i (by omega)
  exact ⟨(ho.cellAt (2 * i) (by omega)).trans a, (ho.cellAt (2 * i + 1) (by omega)).trans b⟩
end Go.Proofs.YtndedphkgkmckaaDoor
/-
  bits.Of of no members, and of any list; members of bytes are small.
-/
namespace Go.Proofs.YtndedphkgkmckaaDoor
open Go.RowKit

theorem setv_none (w : World) : SetV w (.agg #[.int .u64 0, .slice none 0 0]) 0 := ⟨⟨_, [], rfl, Or.inl ⟨rfl, rfl⟩, ⟨rfl, by simp, Or.inl rfl⟩, fun _ => rfl⟩⟩

set_option maxRecDepth 100000 in
set_option maxHeartbeats 1600000 in
theorem of_nil (w : World) :
    Calls Tryd.prog 26 #[.slice none 0 0] w fun e w' => e = .returned (.agg #[.int .u64 0, .slice none 0 0]) ∧ Kept (fun _ => False) w w' := by
  obtain ⟨i0, hi, hz0, hz1, hz2⟩ := info_parts info_u64
  go_enter Tryd.func26, Tryd.ntmps26
  go_wp2_with fail
  refine (greatestOf_any _ _ [] (Or.inl ⟨rfl, rfl⟩)).mono ?_
  rintro e w' ⟨rfl, rfl⟩
  rw [show gOf [] = -1 from rfl]
  go_wp2_with fail
  refine (wordsFor_any _ _ (by omega) (by omega)).mono ?_
  rintro e w' ⟨rfl, rfl⟩
  rw [show ((-1 : Int) + 64) / 64 = ((0 : Nat) : Int) by omega]
  go_wp2_with (refine wpList_make_full _ rfl _ _ _ rfl w.heap.size 52 i0 _ 1 Tryd.underlying53 hi hz0 hz1 _ _ _ _ 0 rfl rfl rfl rfl (by omega) (by unfold maxLen; omega) (by simp) ?_)
  intro wA hownA hgrowA
  have hkA : Kept (fun _ => False) w wA := (Kept.alloc (fun _ => False) w _).trans (Kept.ofGrown (S := fun _ => False) hgrowA (fun k e => by cases e)) (fun _ _ h => h) (fun _ _ h => h)
  have r0 : wA.cell? ⟨w.heap.size, 0, none⟩ = some (.int .u64 0) := (hgrowA.cell_far ⟨w.heap.size, 0, none⟩ (by simp) (by simp)).trans (by go_simp)
  have r1 : wA.cell? ⟨w.heap.size, 1, none⟩ = some (.slice none 0 0) := (hgrowA.cell_far ⟨w.heap.size, 1, none⟩ (by simp) (by simp)).trans (by go_simp)
  have rf : ∀ i, wA.frozen? ⟨w.heap.size, i, none⟩ = false := fun i => (hgrowA.frozen_far ⟨w.heap.size, i, none⟩ (by simp) (by simp)).trans (by go_simp)
  have hAs : w.heap.size < wA.heap.size := Nat.lt_of_lt_of_le (by simp) hgrowA.size
  have RF := Lib.hid rf; clear rf
  have R0 := Lib.hid r0; clear r0
  have R1 := Lib.hid r1; clear r1
  clear hownA hgrowA
  go_wp2_with fail
  go_loopw [12] (fun iv wr => iv = .int .i64 0 ∧ wr = wA) (fun _ _ => 0)
  case atStart => exact ⟨rfl, rfl⟩
  case round =>
    obtain ⟨rfl, rfl⟩ := hrel
    go_wp2_with fail
    refine (pack_nil wr _ 0).mono ?_
    rintro e w1 ⟨rfl, hk1⟩
    have c0 := (hk1.cell (p := ⟨w.heap.size, 0, none⟩) (by simp; omega) (by simp)).trans R0.out
    have c1 := (hk1.cell (p := ⟨w.heap.size, 1, none⟩) (by simp; omega) (by simp)).trans R1.out
    have f0 := (hk1.frozen (p := ⟨w.heap.size, 0, none⟩) (by simp; omega) (by simp)).trans (RF.out 0)
    have f1 := (hk1.frozen (p := ⟨w.heap.size, 1, none⟩) (by simp; omega) (by simp)).trans (RF.out 1)
    have hkw := hkA
    go_wp2
    refine bodyPost_ret (v := .agg #[.int .u64 0, .slice none 0 0]) (by simp [results, Tryd.results26, go_sem, c0, c1]) rfl ⟨rfl, ?_⟩
    exact (hkw.trans hk1 (fun _ _ h => h) (fun _ _ h => h)).trans ((Kept.setCell (fun k => k = w.heap.size) _ ⟨w.heap.size, 0, none⟩ _ rfl).trans (Kept.setCell (fun k => k = w.heap.size) _ ⟨w.heap.size, 1, none⟩ _ rfl) (fun _ _ h => h) (fun _ _ h => h)) (fun _ _ h => h) (fun i hi e => by omega)

/-- 'bits.Of' of any list. -/
theorem of_any (w : World) (v : Value) (xs : List Int) (h : Ints w v xs) :
    Calls Tryd.prog 26 #[v] w fun e w' => ∃ v, e = .returned v ∧ SetV w' v (maskOf xs) ∧ (∀ k, setBlk v k → w.heap.size ≤ k) ∧ Kept (fun _ => False) w w' := by
  rcases h with ⟨rfl, rfl⟩ | ⟨g, off, cap, rfl, h1, h2, h3, h4⟩
  · refine (of_nil w).mono ?_
    rintro e w' ⟨rfl, hk⟩
    refine ⟨_, rfl, setv_none w', ?_, hk⟩
    rintro k ⟨lo, hv, he, hb⟩
    cases he
    simp [Value.ownBlock] at hb
  · exact of_at w g off cap xs h1 h2 h3 h4

end Go.Proofs.YtndedphkgkmckaaDoor
/-
  arbaclaw07.PathNests: the sets of the paths within one another, and what its loops keep.
-/
namespace Go.Proofs.YtndedphkgkmckaaDoor
open Go.RowKit
set_option linter.unusedVariables false

theorem info_bsetQ : (Tryd.prog.info? 55).map (fun i => (i.zero, i.size, i.bytes)) = some (some (.agg #[.int .u64 0, .slice none 0 0]), 2, 32) := by kernel_rfl

/-- The paths of the first K lists of bytes. -/
def pathsN (F : Nat → List Nat) (K : Nat) : List ByteArray := (List.range K).map fun i => makeS (F i)
theorem pathsN_length (F : Nat → List Nat) (K : Nat) : (pathsN F K).length = K := by simp [pathsN]
theorem pathsN_succ (F : Nat → List Nat) (K : Nat) : pathsN F (K + 1) = pathsN F K ++ [makeS (F K)] := by simp [pathsN, List.range_succ]
theorem pathsN_at (F : Nat → List Nat) {K k : Nat} (h : k < K) : (pathsN F K).getD k ⟨#[]⟩ = makeS (F k) := by simp [pathsN, List.getD, h]
theorem pathsN_path (F : Nat → List Nat) {K k : Nat} (h : k < K) : IsPath ((pathsN F K).getD k ⟨#[]⟩) := by rw [pathsN_at F h]; exact makeS_path _
theorem pathsN_size (F : Nat → List Nat) {K k : Nat} (h : k < K) : ((pathsN F K).getD k ⟨#[]⟩).size ≤ 10000 := by rw [pathsN_at F h]; exact path_size (makeS_names _)

/-- The sets of the first k paths. -/
def nestsN (ps : List ByteArray) (n k : Nat) : List Nat := (List.range k).map fun i => nestM ps (ps.getD i ⟨#[]⟩) n
theorem nestsN_length (ps : List ByteArray) (n k : Nat) : (nestsN ps n k).length = k := by simp [nestsN]
theorem nestsN_succ (ps : List ByteArray) (n k : Nat) : nestsN ps n (k + 1) = nestsN ps n k ++ [nestM ps (ps.getD k ⟨#[]⟩) n] := by simp [nestsN, List.range_succ]
theorem nestsN_at (ps : List ByteArray) (n : Nat) {k i : Nat} (h : i < k) : (nestsN ps n k).getD i 0 = nestM ps (ps.getD i ⟨#[]⟩) n := by simp [nestsN, List.getD, h]

theorem nestM_yes (ps : List ByteArray) (q : ByteArray) (k : Nat) (h : withinS (ps.getD k ⟨#[]⟩) q = true) : nestM ps q (k + 1) = nestM ps q k ||| 2 ^ k := by
  conv => lhs; unfold nestM
  rw [if_pos h]
theorem nestM_no (ps : List ByteArray) (q : ByteArray) (k : Nat) (h : withinS (ps.getD k ⟨#[]⟩) q = false) : nestM ps q (k + 1) = nestM ps q k := by
  conv => lhs; unfold nestM
  rw [if_neg (by rw [h]; decide)]

theorem LB.cut {w : World} {a : Option Addr} {c : Nat} {f : Nat → Value} {F : Nat → List Nat} {N B : Nat} (h : LB w (.slice a N c) f F N B) (K : Nat) (hK : K ≤ N) : LB w (.slice a K c) f F K B := by
  rcases h with ⟨⟨a', c', h, hc⟩, rfl⟩ | ⟨g, off, cap, h, hc, h3⟩
  · obtain rfl : K = 0 := by omega
    cases h
    exact Or.inl ⟨⟨_, _, rfl, hc⟩, rfl⟩
  · cases h
    exact Or.inr ⟨g, off, _, rfl, by omega, fun i hi => h3 i (by omega)⟩

/-- A set in a block of two cells. -/
structure BoxS (w : World) (g : Nat) (p : Nat × Value) (M : Nat) : Prop where
  c0 : w.cell? ⟨g, 0, none⟩ = some (.int .u64 p.1)
  c1 : w.cell? ⟨g, 1, none⟩ = some p.2
  f0 : w.frozen? ⟨g, 0, none⟩ = false
  f1 : w.frozen? ⟨g, 1, none⟩ = false
  lt : g < w.heap.size
  set : SetV w (pairV p) M
  apart : ∀ k, setBlk (pairV p) k → k ≠ g

theorem BoxS.kept {S : Nat → Prop} {a b : World} {g : Nat} {p : Nat × Value} {M : Nat} (h : BoxS a g p M) (hk : Kept S a b) (hS : ∀ k, k < a.heap.size → ¬ S k) : BoxS b g p M :=
  ⟨(hk.cell (p := ⟨g, 0, none⟩) h.lt (hS g h.lt)).trans h.c0, (hk.cell (p := ⟨g, 1, none⟩) h.lt (hS g h.lt)).trans h.c1,
   (hk.frozen (p := ⟨g, 0, none⟩) h.lt (hS g h.lt)).trans h.f0, (hk.frozen (p := ⟨g, 1, none⟩) h.lt (hS g h.lt)).trans h.f1,
   Nat.lt_of_lt_of_le h.lt hk.size, h.set.kept hk (fun k hb => hS k (h.set.lt k hb)), h.apart⟩

/-- Another set is laid into the block. -/
theorem BoxS.put {a : World} {g : Nat} {p q : Nat × Value} {M N : Nat} (h : BoxS a g p M) (hq : SetV a (pairV q) N) (ha : ∀ k, setBlk (pairV q) k → k ≠ g) :
    BoxS ((a.setCell ⟨g, 0, none⟩ (.int .u64 (q.1 : Int))).setCell ⟨g, 1, none⟩ q.2) g q N := by
  have k2 : Kept (fun k => k = g) a ((a.setCell ⟨g, 0, none⟩ (.int .u64 (q.1 : Int))).setCell ⟨g, 1, none⟩ q.2) := (Kept.setCell (fun k => k = g) a ⟨g, 0, none⟩ _ rfl).trans (Kept.setCell (fun k => k = g) _ ⟨g, 1, none⟩ _ rfl) (fun _ _ h => h) (fun _ _ h => h)
  refine ⟨?_, ?_, ?_, ?_, Nat.lt_of_lt_of_le h.lt k2.size, hq.kept k2 ha, ha⟩
  · rw [World.cell?_setCell_other _ _ _ _ (fun e => by simp at e)]
    exact World.cell?_setCell_same _ _ _ h.c0
  · exact World.cell?_setCell_same _ _ _ ((World.cell?_setCell_other _ _ _ _ (fun e => by simp at e)).trans h.c1)
  · rw [World.frozen?_setCell, World.frozen?_setCell]; exact h.f0
  · rw [World.frozen?_setCell, World.frozen?_setCell]; exact h.f1

/-- A set in a new block of its own. -/
theorem boxS_new {w : World} {lo : Nat} {hv : Value} {M : Nat} (h : SetV w (.agg #[.int .u64 lo, hv]) M) :
    BoxS (w.alloc (.cells #[.int .u64 lo, hv] 55)) w.heap.size (lo, hv) M := by
  have hk := Kept.alloc (fun _ => False) w (.cells #[.int .u64 lo, hv] 55)
  refine ⟨?_, ?_, ?_, ?_, by simp, h.kept hk (fun _ _ h => h), fun k hb e => ?_⟩
  · go_simp
  · go_simp
  · go_simp
  · go_simp
  · have := h.lt k hb; omega

theorem row_formQ {w : World} {B : Nat} {e : TypeId} {s : Nat} {v : Value} {n : Nat} {xs : List Value} (h : w.ownsRow B e s v n xs) : ∃ a c, v = .slice a n c ∧ (0 < n → ∃ g, a = some ⟨g, 0, none⟩) ∧ n ≤ c := by
  obtain ⟨_, hh⟩ := h
  rcases hh with ⟨e, rfl⟩ | ⟨g', cap', cur, e, _, _, hc, _⟩
  · exact ⟨_, _, e, fun h => by omega, Nat.le_refl _⟩
  · exact ⟨_, _, e, fun _ => ⟨_, rfl⟩, hc⟩

/-- What the inner loop keeps: the set so far lies in its block. -/
def NestIn (B pb : Nat) (w2 wr : World) (ps : List ByteArray) (q : ByteArray) (j : Nat) : Prop :=
  ∃ p, BoxS wr pb p (nestM ps q j) ∧ (∀ k, setBlk (pairV p) k → B ≤ k) ∧ Kept (fun i => i = pb) w2 wr

theorem NestIn.start (w1 : World) (ps : List ByteArray) (q : ByteArray) : NestIn w1.heap.size w1.heap.size (w1.alloc (.cells #[.int .u64 0, .slice none 0 0] 55)) (w1.alloc (.cells #[.int .u64 0, .slice none 0 0] 55)) ps q 0 := by
  refine ⟨(0, .slice none 0 0), ⟨?_, ?_, ?_, ?_, by simp, setv_none _, ?_⟩, ?_, Kept.refl _ _⟩
  · show _ = some (Value.int .u64 0); go_simp
  · go_simp
  · go_simp
  · go_simp
  · rintro k ⟨lo, hv, he, hb⟩
    cases he
    simp [Value.ownBlock] at hb
  · rintro k ⟨lo, hv, he, hb⟩
    cases he
    simp [Value.ownBlock] at hb

/-- What the outer loop keeps: the row of sets. -/
structure NestOut (w wr : World) (ps : List ByteArray) (n : Nat) (sv : Value) (k : Nat) : Prop where
  ex : ∃ vs, SetsR wr w.heap.size sv vs (nestsN ps n k)
  kept : Kept (fun _ => False) w wr
theorem NestOut.start (w : World) (ps : List ByteArray) (n : Nat) : NestOut w w ps n (.slice none 0 0) 0 := ⟨⟨[], SetsR.nil _ _⟩, Kept.refl _ _⟩
end Go.Proofs.YtndedphkgkmckaaDoor
/-
  arbaclaw07.PathNests: the walk of the law.
-/
namespace Go.Proofs.YtndedphkgkmckaaDoor
open Go.RowKit
set_option linter.unusedSimpArgs false
set_option linter.unusedVariables false

set_option maxRecDepth 100000 in
set_option maxHeartbeats 6400000 in
theorem nests_at (a0 : Option Addr) (N c0 : Nat) (f : Nat → Value) (F : Nat → List Nat) (w : World) (hl : LB w (.slice a0 N c0) f F N w.heap.size) (hN : N ≤ c0) (hc0 : c0 ≤ 9223372036854775807) :
    Calls Tryd.prog 6 #[.slice a0 N c0] w fun e w' => e = .returned (.bool true) ∧ Kept (fun _ => False) w w' := by
  obtain ⟨i0, hi, hz0, hz1, hz2⟩ := info_parts info_bsetQ
  obtain ⟨K, hK⟩ : ∃ K, K = min N 10 := ⟨_, rfl⟩
  have hmin : min (N : Int) 10 = (K : Int) := by omega
  have hK0 : (0 : Int) ≤ (K : Int) := by omega
  have hK1 : (K : Int) ≤ (N : Int) := by omega
  have hK2 : (K : Int) ≤ (c0 : Int) := by omega
  have hK3 : K ≤ c0 := by omega
  have hK4 : K ≤ N := by omega
  have hK5 : K ≤ 10 := by omega
  have HLK := Lib.hid (hl.cut K hK4)
  clear hl hK
  go_enter Tryd.func6, Tryd.ntmps6
  go_wp2_with fail
  refine (awake7_any _).mono ?_
  rintro e w0 ⟨rfl, k0⟩
  have K0 := Lib.hid k0
  clear k0
  go_wp2_with fail
  go_loopw [3, 5, 24] (fun lv sv iv wr => ∃ (k : Nat) (aa : Option Addr) (c : Nat), k ≤ K ∧ iv = .int .i64 k ∧ lv = .slice aa k c ∧ Hid (OwnS wr w0.heap.size (.slice aa k c) (pathsN F k)) ∧ Hid (Kept (fun _ => False) w0 wr)) (fun _ _ iv _ => K - (intOf iv).toNat)
  case atStart => exact ⟨0, none, 0, by omega, rfl, rfl, OwnS.nil _ _, Kept.refl _ _⟩
  case round =>
    obtain ⟨k, aa, c, hk, rfl, rfl, ho, hkw⟩ := hrel
    have l2 : (0 : Int) ≤ (k : Int) := by omega
    by_cases hlt : k < K
    · have l3 : (k : Int) < (K : Int) := by omega
      obtain ⟨g, off, ha0, hgl, hcell, hloose, hby⟩ := (HLK.out.kept (K0.out.then hkw.out) (Nat.le_refl _)).at (k := k) hlt
      subst ha0
      have HMK := Lib.hid (make_any (f k) (F k) _ wr hloose hby hloose.le)
      have HPS := Lib.hid (pathsN_succ F k)
      have HPL := Lib.hid (pathsN_length F k)
      generalize f k = fk at hcell HMK
      generalize makeS (F k) = P at HMK HPS
      generalize pathsN F k = acc at ho HPS HPL
      have HSZ := Lib.hid hkw.out.size
      clear hloose hby
      go_wp2_with fail
      refine HMK.out.mono ?_
      rintro e w3 ⟨rfl, k3⟩
      have HO3 := Lib.hid (ho.out.kept k3 (fun _ _ h => h))
      have HK3 := Lib.hid (hkw.out.then k3)
      clear k3 HMK
      go_wp2_with (at_builtin; refine wpList_pushS (by rfl) _ _ rfl rfl w0.heap.size _ acc w3.heap.size P rfl rfl (HO3.out.alloc _) (by go_simp) (by have := HPL.out; omega) (by have := HK3.out.size; simp; omega) ?_)
      intro a' c' w4 hown hk4
      have hrow : OwnS w4 w0.heap.size (.slice a' (k + 1) c') (pathsN F (k + 1)) := by
        have h2 := hown
        rw [HPL.out, ← HPS.out] at h2
        exact h2
      have HR4 := Lib.hid hrow
      have HK4 : Hid (Kept (fun _ => False) w0 w4) := (HK3.out.then (Kept.alloc _ _ _)).trans hk4 (fun _ _ h => h) (fun i hi e => by have := (HO3.out.bound i e).1; omega)
      have hll := HPL.out
      clear hown hk4 hrow
      go_wp2_with fail
      go_roundw
      case rel => first | exact ⟨k + 1, a', c', by omega, by go_num, by rw [hll], HR4, HK4⟩ | ((repeat apply Exists.intro); exact ⟨⟨k + 1, a', c', by omega, by go_num, by rw [hll], HR4, HK4⟩, rfl⟩)
      case measure => simp [intOf]; omega
    · have l3 : ¬ (k : Int) < (K : Int) := by omega
      obtain rfl : k = K := by omega
      have HPP := Lib.hid (fun i (h : i < k) => pathsN_path F h)
      have HPZ := Lib.hid (fun i (h : i < k) => pathsN_size F h)
      have HPL := Lib.hid (pathsN_length F k)
      generalize pathsN F k = ps at ho HPP HPZ HPL
      have HST := Lib.hid (Strs.ofOwn ho.out)
      have K2 := Lib.hid (K0.out.then hkw.out)
      obtain ⟨w2, hw2⟩ : ∃ w2 : World, w2 = wr := ⟨_, rfl⟩
      rw [← hw2] at HST K2 ⊢
      clear ho hkw hK1 hK2 hK3 hK4 hmin HLK K0 hlt hk hw2 l3
      go_wp2_with fail
      go_loopw [6, 36] (fun sv iv wr => ∃ m : Nat, m ≤ k ∧ iv = .int .i64 m ∧ Hid (NestOut w2 wr ps k sv m)) (fun _ iv _ => k - (intOf iv).toNat)
      case atStart => exact ⟨0, by omega, rfl, NestOut.start w2 ps k⟩
      case round =>
        obtain ⟨m, hm, rfl, hinv⟩ := hrel
        by_cases hlt : m < k
        · have l1 : (m : Int) < (k : Int) := by omega
          have l0 : (0 : Int) ≤ (m : Int) := by omega
          obtain ⟨g, off, haa, hgl, hcell⟩ := (HST.out.kept hinv.out.kept (fun _ _ h => h)).at (k := m) (by have := HPL.out; omega)
          subst haa
          have hqz := HPZ.out m hlt
          have HSU := Lib.hid (nestsN_succ ps k m)
          have HNL := Lib.hid (nestsN_length ps k m)
          generalize ps.getD m ⟨#[]⟩ = q at hcell hqz HSU
          have HQZ := Lib.hid hqz; clear hqz
          obtain ⟨wo, rfl⟩ : ∃ wo : World, wo = wr := ⟨_, rfl⟩
          go_wp2_with fail
          refine (of_nil wo).mono ?_
          rintro e w3 ⟨rfl, k3⟩
          have K3 := Lib.hid k3
          clear k3
          go_wp2_with fail
          have HIN := Lib.hid (NestIn.start w3 ps q)
          have hpb : wo.heap.size ≤ w3.heap.size := K3.out.size
          have hw4 : Hid (Kept (fun _ => False) wo (w3.alloc (.cells #[.int .u64 0, .slice none 0 0] 55))) := K3.out.then (Kept.alloc _ _ _)
          have hpb2 : w3.heap.size < (w3.alloc (.cells #[.int .u64 0, .slice none 0 0] 55)).heap.size := by simp
          generalize w3.alloc (.cells #[.int .u64 0, .slice none 0 0] 55) = w4 at HIN hw4 hpb2 ⊢
          generalize w3.heap.size = pb at *
          go_loopw [43] (fun iv wr => ∃ j : Nat, j ≤ k ∧ iv = .int .i64 j ∧ Hid (NestIn pb pb w4 wr ps q j)) (fun iv _ => k - (intOf iv).toNat)
          case atStart => exact ⟨0, by omega, rfl, HIN⟩
          case round =>
            obtain ⟨j, hj, rfl, hin⟩ := hrel
            obtain ⟨⟨lo, hv⟩, hbox, hblk, hk4⟩ := hin.out
            obtain ⟨lo', sa, sn, sc, hform⟩ := hbox.set.form
            obtain ⟨rfl, rfl⟩ : lo = lo' ∧ hv = .slice sa sn sc := by
              simp [pairV] at hform
              exact ⟨by omega, hform.2⟩
            by_cases hjt : j < k
            · have t1 : (j : Int) < (k : Int) := by omega
              have t0 : (0 : Int) ≤ (j : Int) := by omega
              have hcj : wr.cell? ⟨g, off + j, none⟩ = some (.string (ps.getD j ⟨#[]⟩)) := by
                have hgo := hinv.out.kept.size
                obtain ⟨g', off', h1, h2, h3⟩ := HST.out.at (k := j) (by have := HPL.out; omega)
                cases h1
                have q1 := (hinv.out.kept.then hw4.out).cell (p := ⟨g, off + j, none⟩) h2 (fun h => h)
                have q2 := hk4.cell (p := ⟨g, off + j, none⟩) (Nat.lt_of_lt_of_le h2 (by have := hw4.out.size; omega)) (fun e => by have e : g = pb := e; have h2 : g < w2.heap.size := h2; omega)
                rw [q2, q1, h3]
              have hpz := HPZ.out j hjt
              have HWN := Lib.hid (fun W => within_any (ps.getD j ⟨#[]⟩) q (by omega) (by have := HQZ.out; omega) W)
              have HBX := Lib.hid hbox; have HBL := Lib.hid hblk; have HK4 := Lib.hid hk4
              cases hwi : withinS (ps.getD j ⟨#[]⟩) q with
              | false =>
                rw [hwi] at HWN
                have HMN := Lib.hid (nestM_no ps q j hwi)
                clear hwi
                generalize ps.getD j ⟨#[]⟩ = x at hcj hpz HWN
                clear hform hin hblk hk4 hbox hpz
                go_wp2_with fail
                refine (HWN.out _).mono ?_
                rintro e w5 ⟨rfl, k5⟩
                have HIN2 : Hid (NestIn pb pb w4 w5 ps q (j + 1)) := ⟨(lo, .slice sa sn sc), by rw [HMN.out]; exact HBX.out.kept k5 (fun _ _ h => h), HBL.out, HK4.out.trans k5 (fun _ _ h => h) (fun _ _ h => h.elim) (T := fun i => i = pb)⟩
                clear k5
                go_wp2_with fail
                go_roundw
                case rel => first | exact ⟨j + 1, by omega, by go_num, HIN2⟩ | ((repeat apply Exists.intro); exact ⟨⟨j + 1, by omega, by go_num, HIN2⟩, rfl⟩)
                case measure => simp [intOf]; omega
              | true =>
                rw [hwi] at HWN
                have HMY := Lib.hid (nestM_yes ps q j hwi)
                clear hwi
                generalize ps.getD j ⟨#[]⟩ = x at hcj hpz HWN
                clear hform hin hblk hk4 hbox hpz
                go_wp2_with fail
                refine (HWN.out _).mono ?_
                rintro e w5 ⟨rfl, k5⟩
                have HBX5 := Lib.hid (HBX.out.kept k5 (fun _ _ h => h))
                have HK5 := Lib.hid (HK4.out.trans k5 (fun _ _ h => h) (fun _ _ h => h.elim) (T := fun i => i = pb))
                have HWI := Lib.hid (with_any w5 _ (nestM ps q j) j HBX5.out.set (nestM_small ps q j (by omega)) (by omega))
                obtain ⟨c0', c1', _, _, _, _, _⟩ := HBX5.out
                clear k5 HBX HK4
                go_wp2_with fail
                refine HWI.out.mono ?_
                rintro e wr2 ⟨v', rfl, hset', hblk', hk'⟩
                obtain ⟨lo2, sa2, sn2, sc2, rfl⟩ := hset'.form
                have hbx2 := HBX5.out.kept hk' (fun _ _ h => h)
                have hb2 : ∀ k, setBlk (pairV (lo2, .slice sa2 sn2 sc2)) k → pb ≤ k ∧ k ≠ pb := fun k hk => by
                  rcases hblk' k hk with h | h
                  · exact ⟨HBL.out k h, HBX5.out.apart k h⟩
                  · have := HBX5.out.lt; exact ⟨by omega, by omega⟩
                have hput := hbx2.put (q := (lo2, .slice sa2 sn2 sc2)) hset' (fun k hk => (hb2 k hk).2)
                have HIN2 : Hid (NestIn pb pb w4 ((wr2.setCell ⟨pb, 0, none⟩ (.int .u64 (lo2 : Int))).setCell ⟨pb, 1, none⟩ (.slice sa2 sn2 sc2)) ps q (j + 1)) :=
                  ⟨(lo2, .slice sa2 sn2 sc2), by rw [HMY.out]; exact hput, fun k hk => (hb2 k hk).1, (HK5.out.trans hk' (fun _ _ h => h) (fun _ _ h => h.elim) (T := fun i => i = pb)).trans ((Kept.setCell (fun k => k = pb) wr2 ⟨pb, 0, none⟩ _ rfl).trans (Kept.setCell (fun k => k = pb) _ ⟨pb, 1, none⟩ _ rfl) (fun _ _ h => h) (fun _ _ h => h)) (fun _ _ h => h) (fun _ _ h => h)⟩
                obtain ⟨d0, d1, d2, d3, _, _, _⟩ := hbx2
                clear hput hb2 hset' hblk' hk' c0' c1'
                go_wp2_with fail
                go_roundw
                case rel => first | exact ⟨j + 1, by omega, by go_num, HIN2⟩ | ((repeat apply Exists.intro); exact ⟨⟨j + 1, by omega, by go_num, HIN2⟩, rfl⟩)
                case measure => simp [intOf]; omega
            · obtain rfl : j = k := by omega
              have HBX := Lib.hid hbox; have HBL := Lib.hid hblk
              have HKW := Lib.hid ((hw4.out).trans hk4 (T := fun _ => False) (fun _ _ h => h) (fun i hi e => by have e : i = pb := e; omega))
              have hj0 : ¬ (j : Int) < (j : Int) := by omega
              obtain ⟨vs, hsets⟩ := hinv.out.ex
              have HSE := Lib.hid hsets
              have hvl : vs.length = m := by rw [hsets.len]; exact HNL.out
              have hm1 : vs.length + 1 ≤ maxLen := by unfold maxLen; omega
              have hm2 : (vs.length + 1) * 32 ≤ 140737488355328 := by omega
              have hkO := HKW.out.size
              have hkI := hinv.out.kept.size
              have HRO := Lib.hid (HKW.out.owns hsets.own (fun _ _ h => h))
              have HVL := Lib.hid hvl
              obtain ⟨c0', c1', _, _, _, _, _⟩ := hbox
              clear hform hin hblk hk4 hsets hvl
              go_wp2_with (at_builtin; refine wpList_append_lies _ rfl _ _ _ rfl w2.heap.size 55 i0 _ 2 32 Tryd.underlying51 hi hz0 hz1 hz2 rfl (by omega) _ _ _ rfl (HRO.out.alloc _) ⟨wr.heap.size, 0, none⟩ 1 1 [.int .u64 lo, .slice sa sn sc] rfl rfl (World.news_of_block (cs := #[.int .u64 lo, .slice sa sn sc]) (t := 55) (fr := (0, 0)) (heap_alloc_new wr _)) (by simp [Value.oneCell']) (by omega) hm1 hm2 (by simp; omega) (wr.heap.size + 1) (by simp) ?_)
              intro gg cap w7 hown7 hgrow hat hgl7
              have kp : Kept (blk u6) wr w7 := (Kept.alloc (fun _ => False) wr _).trans (Kept.ofGrown (S := blk u6) hgrow fun k e => e) (fun _ _ h => h.elim) (fun _ _ h => h)
              have hsd7 := (HSE.out.kept HKW.out (fun _ _ h => h)).push (p := (lo, .slice sa sn sc)) HBX.out.set (fun i hib e => by have := (HSE.out.own.lt i e).2; have := HBL.out i hib; omega) kp hown7 (by
                rcases hat with e | e
                · exact Or.inl (by rw [e]; rfl)
                · exact Or.inr fun i hi => by simp [Value.ownBlock] at hi; omega)
              rw [← HSU.out] at hsd7
              have HO7 : Hid (NestOut w2 w7 ps j (.slice (some ⟨gg, 0, none⟩) (m + 1) cap) (m + 1)) := by
                have hl7 := HVL.out
                rw [hl7] at hsd7
                exact ⟨⟨_, hsd7⟩, (hinv.out.kept.then HKW.out).trans kp (fun _ _ h => h) (fun i hi e => by have := (HSE.out.own.lt i e).1; omega)⟩
              have hl7 := HVL.out
              clear hsd7 kp hown7 hgrow hat hgl7 HRO
              go_wp2_with fail
              go_roundw
              case rel => first | exact ⟨m + 1, by omega, by go_num, by first | exact HO7 | (rw [hl7]; exact HO7)⟩ | ((repeat apply Exists.intro); exact ⟨⟨m + 1, by omega, by go_num, by first | exact HO7 | (rw [hl7]; exact HO7)⟩, rfl⟩)
              case measure => simp [intOf]; omega
        · obtain rfl : m = k := by omega
          obtain ⟨vs, hsets⟩ := hinv.out.ex
          have hvl : vs.length = m := by rw [hsets.len, nestsN_length]
          have hso := hsets.own
          rw [hvl] at hso
          obtain ⟨sa, sc, hsf, hsg, hsc⟩ := row_formQ hso
          subst hsf
          have K5 := Lib.hid (K2.out.then hinv.out.kept)
          have HST5 := Lib.hid (HST.out.kept hinv.out.kept (fun _ _ h => h))
          have HSS := Lib.hid hsets; have HSG := Lib.hid hsg
          obtain ⟨w5, hw5⟩ : ∃ w5 : World, w5 = wr := ⟨_, rfl⟩
          rw [← hw5] at K5 HST5 HSS ⊢
          have hsci : (m : Int) ≤ (sc : Int) := by omega
          clear hsets hvl hso hsg hinv HST K2 hw5 hlt hm
          go_wp2_with fail
          go_loopw [62] (fun iv wr => ∃ i : Nat, i ≤ m ∧ iv = .int .i64 i ∧ Hid (Kept (fun _ => False) w5 wr)) (fun iv _ => m - (intOf iv).toNat)
          case atStart => exact ⟨0, by omega, rfl, Kept.refl _ _⟩
          case round =>
            obtain ⟨i, hi, rfl, hkr⟩ := hrel
            by_cases hlt2 : i < m
            · have l1 : (i : Int) < (m : Int) := by omega
              have l0 : (0 : Int) ≤ (i : Int) := by omega
              obtain ⟨g2, hg2⟩ := HSG.out (by omega)
              subst hg2
              have hsat := (HSS.out.kept hkr.out (fun _ _ h => h)).at (i := i) (by rw [nestsN_length]; exact hlt2)
              have hsel := (HSS.out.kept hkr.out (fun _ _ h => h)).el i (by rw [nestsN_length]; exact hlt2)
              rw [nestsN_at ps m hlt2] at hsel
              have hsml := nestM_small ps (ps.getD i ⟨#[]⟩) m (by omega)
              have hnf : ∀ j, j < m → NestF ps i j (nestM ps (ps.getD i ⟨#[]⟩) m) (nestM ps (ps.getD j ⟨#[]⟩) m) := fun j hj => nestF HPP.out hlt2 hj
              have hhas := (hnf i hlt2).has
              generalize nestM ps (ps.getD i ⟨#[]⟩) m = M at hsel hsml hnf hhas
              generalize vs.getD i (0, undef) = q at hsat hsel
              obtain ⟨ql, qv⟩ := q
              obtain ⟨ql', qa, qn, qc, hqf⟩ := hsel.form
              obtain ⟨rfl, rfl⟩ : ql = ql' ∧ qv = .slice qa qn qc := by
                simp [pairV] at hqf
                exact ⟨by omega, hqf.2⟩
              obtain ⟨hs0, hs1⟩ := hsat
              rw [Nat.mul_comm] at hs0 hs1
              have HB1 := Lib.hid (boxS_new (w := wr) hsel)
              have HHA := bhas_any (wr.alloc (.cells #[.int .u64 ql, .slice qa qn qc] 55)) _ M i HB1.out.set (by omega)
              rw [hhas] at HHA
              have HHA := Lib.hid HHA
              have HNF := Lib.hid hnf; have HSM := Lib.hid hsml
              have K6 : Hid (Kept (fun _ => False) w5 (wr.alloc (.cells #[.int .u64 ql, .slice qa qn qc] 55))) := hkr.out.then (Kept.alloc _ _ _)
              clear hqf hsel hsml hnf hhas
              go_wp2_with fail
              generalize wr.alloc (.cells #[.int .u64 ql, .slice qa qn qc] 55) = w6 at HB1 HHA K6 ⊢
              generalize wr.heap.size = b1 at HB1 ⊢
              refine HHA.out.mono ?_
              rintro e w7 ⟨rfl, k7⟩
              have HB7 := Lib.hid (HB1.out.kept k7 (fun _ _ h => h))
              have K7 := Lib.hid (K6.out.then k7)
              clear k7 HHA HB1 K6 hs0 hs1
              go_wp2_with fail
              obtain ⟨wq, hwq⟩ : ∃ wq : World, wq = wr := ⟨_, rfl⟩
              clear hwq
              go_loopw [73] (fun iv wr => ∃ j : Nat, j ≤ m ∧ iv = .int .i64 j ∧ Hid (Kept (fun _ => False) w7 wr)) (fun iv _ => m - (intOf iv).toNat)
              case atStart => exact ⟨0, by omega, rfl, Kept.refl _ _⟩
              case round =>
                obtain ⟨j, hj, rfl, hkj⟩ := hrel
                by_cases hjt : j < m
                · have t1 : (j : Int) < (m : Int) := by omega
                  have t0 : (0 : Int) ≤ (j : Int) := by omega
                  have K57 := Lib.hid (K7.out.then hkj.out)
                  have hsat := (HSS.out.kept K57.out (fun _ _ h => h)).at (i := j) (by rw [nestsN_length]; exact hjt)
                  have hsel := (HSS.out.kept K57.out (fun _ _ h => h)).el j (by rw [nestsN_length]; exact hjt)
                  rw [nestsN_at ps m hjt] at hsel
                  have hsml := nestM_small ps (ps.getD j ⟨#[]⟩) m (by omega)
                  have hF := HNF.out j hjt
                  generalize nestM ps (ps.getD j ⟨#[]⟩) m = L at hsel hsml hF
                  generalize vs.getD j (0, undef) = q at hsat hsel
                  obtain ⟨pl, pv⟩ := q
                  obtain ⟨pl', pa, pn, pc, hqf⟩ := hsel.form
                  obtain ⟨rfl, rfl⟩ : pl = pl' ∧ pv = .slice pa pn pc := by
                    simp [pairV] at hqf
                    exact ⟨by omega, hqf.2⟩
                  obtain ⟨hs0, hs1⟩ := hsat
                  rw [Nat.mul_comm] at hs0 hs1
                  obtain ⟨gp, ofp, hap, hgp, hci⟩ := (HST5.out.kept K57.out (fun _ _ h => h)).at (k := i) (by have := HPL.out; omega)
                  obtain ⟨gp2, ofp2, hap2, hgp2, hcj⟩ := (HST5.out.kept K57.out (fun _ _ h => h)).at (k := j) (by have := HPL.out; omega)
                  subst hap
                  cases hap2
                  have HB2 := Lib.hid (boxS_new (w := wr) hsel)
                  have hkx := Kept.alloc (fun _ => False) wr (.cells #[.int .u64 pl, .slice pa pn pc] 55)
                  have HPW := Lib.hid (fun (W : World) (_ : Kept (fun _ => False) (wr.alloc (.cells #[.int .u64 pl, .slice pa pn pc] 55)) W) => within_any (ps.getD i ⟨#[]⟩) (ps.getD j ⟨#[]⟩) (by have := HPZ.out i hlt2; omega) (by have := HPZ.out j hjt; omega) W)
                  rw [← hF.same] at HPW
                  have HB78 := Lib.hid ((HB7.out.kept hkj.out (fun _ _ h => h)).kept hkx (fun _ _ h => h))
                  have HME := Lib.hid (fun (W : World) (hk : Kept (fun _ => False) (wr.alloc (.cells #[.int .u64 pl, .slice pa pn pc] 55)) W) => meets_any W _ _ M L (HB78.out.set.kept hk (fun _ _ h => h)) (HB2.out.set.kept hk (fun _ _ h => h)) HSM.out hsml)
                  have HW1 := Lib.hid (fun (W : World) (hk : Kept (fun _ => False) (wr.alloc (.cells #[.int .u64 pl, .slice pa pn pc] 55)) W) => bwithin_any W _ _ M L (HB78.out.set.kept hk (fun _ _ h => h)) (HB2.out.set.kept hk (fun _ _ h => h)) HSM.out hsml)
                  have HW2 := Lib.hid (fun (W : World) (hk : Kept (fun _ => False) (wr.alloc (.cells #[.int .u64 pl, .slice pa pn pc] 55)) W) => bwithin_any W _ _ L M (HB2.out.set.kept hk (fun _ _ h => h)) (HB78.out.set.kept hk (fun _ _ h => h)) hsml HSM.out)
                  have hnest := hF.nest
                  generalize decide (M &&& L ≠ 0) = B1 at HME hnest
                  generalize decide (anN M L = 0) = B2 at HW1 HPW hnest
                  generalize decide (anN L M = 0) = B3 at HW2 hnest
                  have hcs : (B1 = false ∧ B2 = true) ∨ (B1 = false ∧ B2 = false) ∨ (B1 = true ∧ B2 = true) ∨ (B1 = true ∧ B2 = false ∧ B3 = true) := by
                    cases B1 <;> cases B2 <;> cases B3 <;> simp_all
                  have HCI := Lib.hid hci; have HCJ := Lib.hid hcj
                  generalize ps.getD i ⟨#[]⟩ = xi at HCI HPW
                  generalize ps.getD j ⟨#[]⟩ = xj at HCJ HPW
                  have HKJ : Hid (Kept (fun _ => False) w7 (wr.alloc (.cells #[.int .u64 pl, .slice pa pn pc] 55))) := hkj.out.then hkx
                  have HC := Lib.hid (fun (W : World) (hk : Kept (fun _ => False) (wr.alloc (.cells #[.int .u64 pl, .slice pa pn pc] 55)) W) =>
                    (show W.cell? ⟨b1, 0, none⟩ = some (.int .u64 ql) ∧ W.cell? ⟨b1, 1, none⟩ = some (.slice qa qn qc) ∧ W.cell? ⟨wr.heap.size, 0, none⟩ = some (.int .u64 pl) ∧ W.cell? ⟨wr.heap.size, 1, none⟩ = some (.slice pa pn pc) ∧ W.cell? ⟨gp, ofp + i, none⟩ = some (.string xi) ∧ W.cell? ⟨gp, ofp + j, none⟩ = some (.string xj) from
                      ⟨(hk.cell (p := ⟨b1, 0, none⟩) HB78.out.lt (fun h => h)).trans HB78.out.c0, (hk.cell (p := ⟨b1, 1, none⟩) HB78.out.lt (fun h => h)).trans HB78.out.c1,
                       (hk.cell (p := ⟨wr.heap.size, 0, none⟩) HB2.out.lt (fun h => h)).trans HB2.out.c0, (hk.cell (p := ⟨wr.heap.size, 1, none⟩) HB2.out.lt (fun h => h)).trans HB2.out.c1,
                       ((hkx.then hk).cell (p := ⟨gp, ofp + i, none⟩) hgp (fun h => h)).trans HCI.out, ((hkx.then hk).cell (p := ⟨gp, ofp + j, none⟩) hgp (fun h => h)).trans HCJ.out⟩))
                  clear hqf hsel hsml hF hnest hkx hci hcj hgp hgp2 HB2 HB78
                  rcases hcs with ⟨rfl, rfl⟩ | ⟨rfl, rfl⟩ | ⟨rfl, rfl⟩ | ⟨rfl, rfl, rfl⟩
                  all_goals
                    go_wp2_with fail
                    generalize wr.alloc (.cells #[.int .u64 pl, .slice pa pn pc] 55) = w8 at HC HME HW1 HW2 HPW HKJ ⊢
                    generalize wr.heap.size = b2 at HC ⊢
                    clear hs0 hs1
                    have D8 := Lib.hid ((Kept.refl (fun _ => False) w8).drew)
                    refine wp_region_held_drew (S := fun w' => w'.cell? ⟨b1, 0, none⟩ = some (.int .u64 ql) ∧ w'.cell? ⟨b1, 1, none⟩ = some (.slice qa qn qc) ∧ w'.cell? ⟨b2, 0, none⟩ = some (.int .u64 pl) ∧ w'.cell? ⟨b2, 1, none⟩ = some (.slice pa pn pc) ∧ w'.cell? ⟨gp, ofp + i, none⟩ = some (.string xi) ∧ w'.cell? ⟨gp, ofp + j, none⟩ = some (.string xj)) (by kernel_rfl) (HC.out _ D8.out) (fun _ => ?_)
                  · refine wpAnyH_take (i := 0) (v := .agg #[.int .u64 ql, .slice qa qn qc]) rfl (by kernel_rfl) (by kernel_rfl) (by kernel_rfl) (fun _ _ _ h => h) (Or.inl ⟨by simp [Region.wanted, yielded], fun W hW => by obtain ⟨s0, s1, s2, s3, s4, s5⟩ := hW; go_simp⟩) (HC.out _ D8.out) ?_
                    try (simp only [Act.put, List.getElem_toArray, List.getElem_cons_succ, List.getElem_cons_zero, List.setIfInBounds_toArray, List.set_cons_zero, List.set_cons_succ])
                    refine wpAnyH_take (i := 1) (v := .agg #[.int .u64 pl, .slice pa pn pc]) rfl (by kernel_rfl) (by kernel_rfl) (by kernel_rfl) (fun _ _ _ h => h) (Or.inl ⟨by simp [Region.wanted, yielded], fun W hW => by obtain ⟨s0, s1, s2, s3, s4, s5⟩ := hW; go_simp⟩) (HC.out _ D8.out) ?_
                    try (simp only [Act.put, List.getElem_toArray, List.getElem_cons_succ, List.getElem_cons_zero, List.setIfInBounds_toArray, List.set_cons_zero, List.set_cons_succ])
                    refine wpAnyH_ready (rs := [2]) (by kernel_rfl) (by simp) ?_
                    refine AllReadyH.cons (o := _) rfl (fun KK hKK => ?_) AllReadyH.nil
                    go_simp
                    go_at_call 30
                    refine (HME.out _ D8.out).mono ?_
                    rintro e wz9 ⟨rfl, kz9⟩
                    have D9 := Lib.hid (D8.out.then kz9); clear kz9
                    try go_wp2_with fail
                    refine hKK.out _ _ (HC.out _ D9.out) (fun _ => ?_)
                    clear hKK KK
                    try (simp only [Act.put, List.getElem_toArray, List.getElem_cons_succ, List.getElem_cons_zero, List.setIfInBounds_toArray, List.set_cons_zero, List.set_cons_succ])
                    refine wpAnyH_take (i := 3) (v := .bool false) rfl (by kernel_rfl) (by kernel_rfl) (by kernel_rfl) (fun _ _ _ h => h) (Or.inl ⟨by simp [Region.wanted, yielded], fun W hW => by obtain ⟨s0, s1, s2, s3, s4, s5⟩ := hW; go_simp⟩) (HC.out _ D9.out) ?_
                    try (simp only [Act.put, List.getElem_toArray, List.getElem_cons_succ, List.getElem_cons_zero, List.setIfInBounds_toArray, List.set_cons_zero, List.set_cons_succ])
                    refine wpAnyH_take (i := 4) (v := undef) rfl (by kernel_rfl) (by kernel_rfl) (by kernel_rfl) (fun _ _ _ h => h) (Or.inr ⟨by first | (simp [Region.wanted, yielded]; done) | (simp [Region.wanted, yielded, undef]; done), rfl⟩) (HC.out _ D9.out) ?_
                    try (simp only [Act.put, List.getElem_toArray, List.getElem_cons_succ, List.getElem_cons_zero, List.setIfInBounds_toArray, List.set_cons_zero, List.set_cons_succ])
                    refine wpAnyH_take (i := 5) (v := undef) rfl (by kernel_rfl) (by kernel_rfl) (by kernel_rfl) (fun _ _ _ h => h) (Or.inr ⟨by first | (simp [Region.wanted, yielded]; done) | (simp [Region.wanted, yielded, undef]; done), rfl⟩) (HC.out _ D9.out) ?_
                    try (simp only [Act.put, List.getElem_toArray, List.getElem_cons_succ, List.getElem_cons_zero, List.setIfInBounds_toArray, List.set_cons_zero, List.set_cons_succ])
                    refine wpAnyH_take (i := 6) (v := undef) rfl (by kernel_rfl) (by kernel_rfl) (by kernel_rfl) (fun _ _ _ h => h) (Or.inr ⟨by first | (simp [Region.wanted, yielded]; done) | (simp [Region.wanted, yielded, undef]; done), rfl⟩) (HC.out _ D9.out) ?_
                    try (simp only [Act.put, List.getElem_toArray, List.getElem_cons_succ, List.getElem_cons_zero, List.setIfInBounds_toArray, List.set_cons_zero, List.set_cons_succ])
                    refine wpAnyH_take (i := 7) (v := undef) rfl (by kernel_rfl) (by kernel_rfl) (by kernel_rfl) (fun _ _ _ h => h) (Or.inr ⟨by first | (simp [Region.wanted, yielded]; done) | (simp [Region.wanted, yielded, undef]; done), rfl⟩) (HC.out _ D9.out) ?_
                    try (simp only [Act.put, List.getElem_toArray, List.getElem_cons_succ, List.getElem_cons_zero, List.setIfInBounds_toArray, List.set_cons_zero, List.set_cons_succ])
                    refine wpAnyH_take (i := 8) (v := .bool false) rfl (by kernel_rfl) (by kernel_rfl) (by kernel_rfl) (fun _ _ _ h => h) (Or.inl ⟨by simp [Region.wanted, yielded], fun W hW => by obtain ⟨s0, s1, s2, s3, s4, s5⟩ := hW; go_simp⟩) (HC.out _ D9.out) ?_
                    try (simp only [Act.put, List.getElem_toArray, List.getElem_cons_succ, List.getElem_cons_zero, List.setIfInBounds_toArray, List.set_cons_zero, List.set_cons_succ])
                    refine wpAnyH_take (i := 9) (v := .bool false) rfl (by kernel_rfl) (by kernel_rfl) (by kernel_rfl) (fun _ _ _ h => h) (Or.inl ⟨by simp [Region.wanted, yielded], fun W hW => by obtain ⟨s0, s1, s2, s3, s4, s5⟩ := hW; go_simp⟩) (HC.out _ D9.out) ?_
                    try (simp only [Act.put, List.getElem_toArray, List.getElem_cons_succ, List.getElem_cons_zero, List.setIfInBounds_toArray, List.set_cons_zero, List.set_cons_succ])
                    refine wpAnyH_take (i := 10) (v := undef) rfl (by kernel_rfl) (by kernel_rfl) (by kernel_rfl) (fun _ _ _ h => h) (Or.inr ⟨by first | (simp [Region.wanted, yielded]; done) | (simp [Region.wanted, yielded, undef]; done), rfl⟩) (HC.out _ D9.out) ?_
                    try (simp only [Act.put, List.getElem_toArray, List.getElem_cons_succ, List.getElem_cons_zero, List.setIfInBounds_toArray, List.set_cons_zero, List.set_cons_succ])
                    refine wpAnyH_take (i := 11) (v := undef) rfl (by kernel_rfl) (by kernel_rfl) (by kernel_rfl) (fun _ _ _ h => h) (Or.inr ⟨by first | (simp [Region.wanted, yielded]; done) | (simp [Region.wanted, yielded, undef]; done), rfl⟩) (HC.out _ D9.out) ?_
                    try (simp only [Act.put, List.getElem_toArray, List.getElem_cons_succ, List.getElem_cons_zero, List.setIfInBounds_toArray, List.set_cons_zero, List.set_cons_succ])
                    refine wpAnyH_take (i := 12) (v := undef) rfl (by kernel_rfl) (by kernel_rfl) (by kernel_rfl) (fun _ _ _ h => h) (Or.inr ⟨by first | (simp [Region.wanted, yielded]; done) | (simp [Region.wanted, yielded, undef]; done), rfl⟩) (HC.out _ D9.out) ?_
                    try (simp only [Act.put, List.getElem_toArray, List.getElem_cons_succ, List.getElem_cons_zero, List.setIfInBounds_toArray, List.set_cons_zero, List.set_cons_succ])
                    refine wpAnyH_take (i := 13) (v := undef) rfl (by kernel_rfl) (by kernel_rfl) (by kernel_rfl) (fun _ _ _ h => h) (Or.inr ⟨by first | (simp [Region.wanted, yielded]; done) | (simp [Region.wanted, yielded, undef]; done), rfl⟩) (HC.out _ D9.out) ?_
                    try (simp only [Act.put, List.getElem_toArray, List.getElem_cons_succ, List.getElem_cons_zero, List.setIfInBounds_toArray, List.set_cons_zero, List.set_cons_succ])
                    refine wpAnyH_take (i := 14) (v := .bool false) rfl (by kernel_rfl) (by kernel_rfl) (by kernel_rfl) (fun _ _ _ h => h) (Or.inl ⟨by simp [Region.wanted, yielded], fun W hW => by obtain ⟨s0, s1, s2, s3, s4, s5⟩ := hW; go_simp⟩) (HC.out _ D9.out) ?_
                    try (simp only [Act.put, List.getElem_toArray, List.getElem_cons_succ, List.getElem_cons_zero, List.setIfInBounds_toArray, List.set_cons_zero, List.set_cons_succ])
                    refine wpAnyH_take (i := 15) (v := .bool false) rfl (by kernel_rfl) (by kernel_rfl) (by kernel_rfl) (fun _ _ _ h => h) (Or.inl ⟨by simp [Region.wanted, yielded], fun W hW => by obtain ⟨s0, s1, s2, s3, s4, s5⟩ := hW; go_simp⟩) (HC.out _ D9.out) ?_
                    try (simp only [Act.put, List.getElem_toArray, List.getElem_cons_succ, List.getElem_cons_zero, List.setIfInBounds_toArray, List.set_cons_zero, List.set_cons_succ])
                    refine wpAnyH_take (i := 16) (v := .agg #[.int .u64 ql, .slice qa qn qc]) rfl (by kernel_rfl) (by kernel_rfl) (by kernel_rfl) (fun _ _ _ h => h) (Or.inl ⟨by simp [Region.wanted, yielded], fun W hW => by obtain ⟨s0, s1, s2, s3, s4, s5⟩ := hW; go_simp⟩) (HC.out _ D9.out) ?_
                    try (simp only [Act.put, List.getElem_toArray, List.getElem_cons_succ, List.getElem_cons_zero, List.setIfInBounds_toArray, List.set_cons_zero, List.set_cons_succ])
                    refine wpAnyH_take (i := 17) (v := .agg #[.int .u64 pl, .slice pa pn pc]) rfl (by kernel_rfl) (by kernel_rfl) (by kernel_rfl) (fun _ _ _ h => h) (Or.inl ⟨by simp [Region.wanted, yielded], fun W hW => by obtain ⟨s0, s1, s2, s3, s4, s5⟩ := hW; go_simp⟩) (HC.out _ D9.out) ?_
                    try (simp only [Act.put, List.getElem_toArray, List.getElem_cons_succ, List.getElem_cons_zero, List.setIfInBounds_toArray, List.set_cons_zero, List.set_cons_succ])
                    refine wpAnyH_take (i := 19) (v := .slice (some ⟨gp, ofp, none⟩) m c) rfl (by kernel_rfl) (by kernel_rfl) (by kernel_rfl) (fun _ _ _ h => h) (Or.inl ⟨by simp [Region.wanted, yielded], fun W hW => by obtain ⟨s0, s1, s2, s3, s4, s5⟩ := hW; go_simp⟩) (HC.out _ D9.out) ?_
                    try (simp only [Act.put, List.getElem_toArray, List.getElem_cons_succ, List.getElem_cons_zero, List.setIfInBounds_toArray, List.set_cons_zero, List.set_cons_succ])
                    refine wpAnyH_take (i := 20) (v := .int .i64 i) rfl (by kernel_rfl) (by kernel_rfl) (by kernel_rfl) (fun _ _ _ h => h) (Or.inl ⟨by simp [Region.wanted, yielded], fun W hW => by obtain ⟨s0, s1, s2, s3, s4, s5⟩ := hW; go_simp⟩) (HC.out _ D9.out) ?_
                    try (simp only [Act.put, List.getElem_toArray, List.getElem_cons_succ, List.getElem_cons_zero, List.setIfInBounds_toArray, List.set_cons_zero, List.set_cons_succ])
                    refine wpAnyH_take (i := 21) (v := .pointer (some ⟨gp, ofp + i, none⟩)) rfl (by kernel_rfl) (by kernel_rfl) (by kernel_rfl) (fun _ _ _ h => h) (Or.inl ⟨by simp [Region.wanted, yielded], fun W hW => by obtain ⟨s0, s1, s2, s3, s4, s5⟩ := hW; go_simp⟩) (HC.out _ D9.out) ?_
                    try (simp only [Act.put, List.getElem_toArray, List.getElem_cons_succ, List.getElem_cons_zero, List.setIfInBounds_toArray, List.set_cons_zero, List.set_cons_succ])
                    refine wpAnyH_take (i := 22) (v := .string xi) rfl (by kernel_rfl) (by kernel_rfl) (by kernel_rfl) (fun _ _ _ h => h) (Or.inl ⟨by simp [Region.wanted, yielded], fun W hW => by obtain ⟨s0, s1, s2, s3, s4, s5⟩ := hW; go_simp⟩) (HC.out _ D9.out) ?_
                    try (simp only [Act.put, List.getElem_toArray, List.getElem_cons_succ, List.getElem_cons_zero, List.setIfInBounds_toArray, List.set_cons_zero, List.set_cons_succ])
                    refine wpAnyH_take (i := 23) (v := .slice (some ⟨gp, ofp, none⟩) m c) rfl (by kernel_rfl) (by kernel_rfl) (by kernel_rfl) (fun _ _ _ h => h) (Or.inl ⟨by simp [Region.wanted, yielded], fun W hW => by obtain ⟨s0, s1, s2, s3, s4, s5⟩ := hW; go_simp⟩) (HC.out _ D9.out) ?_
                    try (simp only [Act.put, List.getElem_toArray, List.getElem_cons_succ, List.getElem_cons_zero, List.setIfInBounds_toArray, List.set_cons_zero, List.set_cons_succ])
                    refine wpAnyH_take (i := 24) (v := .int .i64 j) rfl (by kernel_rfl) (by kernel_rfl) (by kernel_rfl) (fun _ _ _ h => h) (Or.inl ⟨by simp [Region.wanted, yielded], fun W hW => by obtain ⟨s0, s1, s2, s3, s4, s5⟩ := hW; go_simp⟩) (HC.out _ D9.out) ?_
                    try (simp only [Act.put, List.getElem_toArray, List.getElem_cons_succ, List.getElem_cons_zero, List.setIfInBounds_toArray, List.set_cons_zero, List.set_cons_succ])
                    refine wpAnyH_take (i := 25) (v := .pointer (some ⟨gp, ofp + j, none⟩)) rfl (by kernel_rfl) (by kernel_rfl) (by kernel_rfl) (fun _ _ _ h => h) (Or.inl ⟨by simp [Region.wanted, yielded], fun W hW => by obtain ⟨s0, s1, s2, s3, s4, s5⟩ := hW; go_simp⟩) (HC.out _ D9.out) ?_
                    try (simp only [Act.put, List.getElem_toArray, List.getElem_cons_succ, List.getElem_cons_zero, List.setIfInBounds_toArray, List.set_cons_zero, List.set_cons_succ])
                    refine wpAnyH_take (i := 26) (v := .string xj) rfl (by kernel_rfl) (by kernel_rfl) (by kernel_rfl) (fun _ _ _ h => h) (Or.inl ⟨by simp [Region.wanted, yielded], fun W hW => by obtain ⟨s0, s1, s2, s3, s4, s5⟩ := hW; go_simp⟩) (HC.out _ D9.out) ?_
                    try (simp only [Act.put, List.getElem_toArray, List.getElem_cons_succ, List.getElem_cons_zero, List.setIfInBounds_toArray, List.set_cons_zero, List.set_cons_succ])
                    refine wpAnyH_ready (rs := [18]) (by kernel_rfl) (by simp) ?_
                    refine AllReadyH.cons (o := _) rfl (fun KK hKK => ?_) AllReadyH.nil
                    go_simp
                    go_at_call 31
                    refine (HW1.out _ D9.out).mono ?_
                    rintro e wz12 ⟨rfl, kz12⟩
                    have D12 := Lib.hid (D9.out.then kz12); clear kz12
                    try go_wp2_with fail
                    refine hKK.out _ _ (HC.out _ D12.out) (fun _ => ?_)
                    clear hKK KK
                    try (simp only [Act.put, List.getElem_toArray, List.getElem_cons_succ, List.getElem_cons_zero, List.setIfInBounds_toArray, List.set_cons_zero, List.set_cons_succ])
                    refine wpAnyH_ready (rs := [27]) (by kernel_rfl) (by simp) ?_
                    refine AllReadyH.cons (o := _) rfl (fun KK hKK => ?_) AllReadyH.nil
                    go_simp
                    go_at_call 27
                    refine (HPW.out _ D12.out).mono ?_
                    rintro e wz13 ⟨rfl, kz13⟩
                    have D13 := Lib.hid (D12.out.then kz13); clear kz13
                    try go_wp2_with fail
                    refine hKK.out _ _ (HC.out _ D13.out) (fun _ => ?_)
                    clear hKK KK
                    try (simp only [Act.put, List.getElem_toArray, List.getElem_cons_succ, List.getElem_cons_zero, List.setIfInBounds_toArray, List.set_cons_zero, List.set_cons_succ])
                    refine wpAnyH_take (i := 28) (v := .bool false) rfl (by kernel_rfl) (by kernel_rfl) (by kernel_rfl) (fun _ _ _ h => h) (Or.inl ⟨by simp [Region.wanted, yielded], fun W hW => by obtain ⟨s0, s1, s2, s3, s4, s5⟩ := hW; go_simp⟩) (HC.out _ D13.out) ?_
                    try (simp only [Act.put, List.getElem_toArray, List.getElem_cons_succ, List.getElem_cons_zero, List.setIfInBounds_toArray, List.set_cons_zero, List.set_cons_succ])
                    refine wpAnyH_take (i := 29) (v := .bool false) rfl (by kernel_rfl) (by kernel_rfl) (by kernel_rfl) (fun _ _ _ h => h) (Or.inl ⟨by simp [Region.wanted, yielded], fun W hW => by obtain ⟨s0, s1, s2, s3, s4, s5⟩ := hW; go_simp⟩) (HC.out _ D13.out) ?_
                    try (simp only [Act.put, List.getElem_toArray, List.getElem_cons_succ, List.getElem_cons_zero, List.setIfInBounds_toArray, List.set_cons_zero, List.set_cons_succ])
                    refine wpAnyH_done (by kernel_rfl) ?_ _
                    have KF := Lib.hid (HKJ.out.then D13.out)
                    clear D8 D9 D12 D13 HC HME HW1 HW2 HPW
                    go_wp2_with fail
                    go_roundw
                    case rel => first | exact ⟨j + 1, by omega, by go_num, KF⟩ | ((repeat apply Exists.intro); exact ⟨⟨j + 1, by omega, by go_num, KF⟩, rfl⟩)
                    case measure => simp [intOf]; omega
                  · refine wpAnyH_take (i := 0) (v := .agg #[.int .u64 ql, .slice qa qn qc]) rfl (by kernel_rfl) (by kernel_rfl) (by kernel_rfl) (fun _ _ _ h => h) (Or.inl ⟨by simp [Region.wanted, yielded], fun W hW => by obtain ⟨s0, s1, s2, s3, s4, s5⟩ := hW; go_simp⟩) (HC.out _ D8.out) ?_
                    try (simp only [Act.put, List.getElem_toArray, List.getElem_cons_succ, List.getElem_cons_zero, List.setIfInBounds_toArray, List.set_cons_zero, List.set_cons_succ])
                    refine wpAnyH_take (i := 1) (v := .agg #[.int .u64 pl, .slice pa pn pc]) rfl (by kernel_rfl) (by kernel_rfl) (by kernel_rfl) (fun _ _ _ h => h) (Or.inl ⟨by simp [Region.wanted, yielded], fun W hW => by obtain ⟨s0, s1, s2, s3, s4, s5⟩ := hW; go_simp⟩) (HC.out _ D8.out) ?_
                    try (simp only [Act.put, List.getElem_toArray, List.getElem_cons_succ, List.getElem_cons_zero, List.setIfInBounds_toArray, List.set_cons_zero, List.set_cons_succ])
                    refine wpAnyH_ready (rs := [2]) (by kernel_rfl) (by simp) ?_
                    refine AllReadyH.cons (o := _) rfl (fun KK hKK => ?_) AllReadyH.nil
                    go_simp
                    go_at_call 30
                    refine (HME.out _ D8.out).mono ?_
                    rintro e wz9 ⟨rfl, kz9⟩
                    have D9 := Lib.hid (D8.out.then kz9); clear kz9
                    try go_wp2_with fail
                    refine hKK.out _ _ (HC.out _ D9.out) (fun _ => ?_)
                    clear hKK KK
                    try (simp only [Act.put, List.getElem_toArray, List.getElem_cons_succ, List.getElem_cons_zero, List.setIfInBounds_toArray, List.set_cons_zero, List.set_cons_succ])
                    refine wpAnyH_take (i := 3) (v := .bool false) rfl (by kernel_rfl) (by kernel_rfl) (by kernel_rfl) (fun _ _ _ h => h) (Or.inl ⟨by simp [Region.wanted, yielded], fun W hW => by obtain ⟨s0, s1, s2, s3, s4, s5⟩ := hW; go_simp⟩) (HC.out _ D9.out) ?_
                    try (simp only [Act.put, List.getElem_toArray, List.getElem_cons_succ, List.getElem_cons_zero, List.setIfInBounds_toArray, List.set_cons_zero, List.set_cons_succ])
                    refine wpAnyH_take (i := 4) (v := undef) rfl (by kernel_rfl) (by kernel_rfl) (by kernel_rfl) (fun _ _ _ h => h) (Or.inr ⟨by first | (simp [Region.wanted, yielded]; done) | (simp [Region.wanted, yielded, undef]; done), rfl⟩) (HC.out _ D9.out) ?_
                    try (simp only [Act.put, List.getElem_toArray, List.getElem_cons_succ, List.getElem_cons_zero, List.setIfInBounds_toArray, List.set_cons_zero, List.set_cons_succ])
                    refine wpAnyH_take (i := 5) (v := undef) rfl (by kernel_rfl) (by kernel_rfl) (by kernel_rfl) (fun _ _ _ h => h) (Or.inr ⟨by first | (simp [Region.wanted, yielded]; done) | (simp [Region.wanted, yielded, undef]; done), rfl⟩) (HC.out _ D9.out) ?_
                    try (simp only [Act.put, List.getElem_toArray, List.getElem_cons_succ, List.getElem_cons_zero, List.setIfInBounds_toArray, List.set_cons_zero, List.set_cons_succ])
                    refine wpAnyH_take (i := 6) (v := undef) rfl (by kernel_rfl) (by kernel_rfl) (by kernel_rfl) (fun _ _ _ h => h) (Or.inr ⟨by first | (simp [Region.wanted, yielded]; done) | (simp [Region.wanted, yielded, undef]; done), rfl⟩) (HC.out _ D9.out) ?_
                    try (simp only [Act.put, List.getElem_toArray, List.getElem_cons_succ, List.getElem_cons_zero, List.setIfInBounds_toArray, List.set_cons_zero, List.set_cons_succ])
                    refine wpAnyH_take (i := 7) (v := undef) rfl (by kernel_rfl) (by kernel_rfl) (by kernel_rfl) (fun _ _ _ h => h) (Or.inr ⟨by first | (simp [Region.wanted, yielded]; done) | (simp [Region.wanted, yielded, undef]; done), rfl⟩) (HC.out _ D9.out) ?_
                    try (simp only [Act.put, List.getElem_toArray, List.getElem_cons_succ, List.getElem_cons_zero, List.setIfInBounds_toArray, List.set_cons_zero, List.set_cons_succ])
                    refine wpAnyH_take (i := 8) (v := .bool false) rfl (by kernel_rfl) (by kernel_rfl) (by kernel_rfl) (fun _ _ _ h => h) (Or.inl ⟨by simp [Region.wanted, yielded], fun W hW => by obtain ⟨s0, s1, s2, s3, s4, s5⟩ := hW; go_simp⟩) (HC.out _ D9.out) ?_
                    try (simp only [Act.put, List.getElem_toArray, List.getElem_cons_succ, List.getElem_cons_zero, List.setIfInBounds_toArray, List.set_cons_zero, List.set_cons_succ])
                    refine wpAnyH_take (i := 9) (v := .bool false) rfl (by kernel_rfl) (by kernel_rfl) (by kernel_rfl) (fun _ _ _ h => h) (Or.inl ⟨by simp [Region.wanted, yielded], fun W hW => by obtain ⟨s0, s1, s2, s3, s4, s5⟩ := hW; go_simp⟩) (HC.out _ D9.out) ?_
                    try (simp only [Act.put, List.getElem_toArray, List.getElem_cons_succ, List.getElem_cons_zero, List.setIfInBounds_toArray, List.set_cons_zero, List.set_cons_succ])
                    refine wpAnyH_take (i := 10) (v := undef) rfl (by kernel_rfl) (by kernel_rfl) (by kernel_rfl) (fun _ _ _ h => h) (Or.inr ⟨by first | (simp [Region.wanted, yielded]; done) | (simp [Region.wanted, yielded, undef]; done), rfl⟩) (HC.out _ D9.out) ?_
                    try (simp only [Act.put, List.getElem_toArray, List.getElem_cons_succ, List.getElem_cons_zero, List.setIfInBounds_toArray, List.set_cons_zero, List.set_cons_succ])
                    refine wpAnyH_take (i := 11) (v := undef) rfl (by kernel_rfl) (by kernel_rfl) (by kernel_rfl) (fun _ _ _ h => h) (Or.inr ⟨by first | (simp [Region.wanted, yielded]; done) | (simp [Region.wanted, yielded, undef]; done), rfl⟩) (HC.out _ D9.out) ?_
                    try (simp only [Act.put, List.getElem_toArray, List.getElem_cons_succ, List.getElem_cons_zero, List.setIfInBounds_toArray, List.set_cons_zero, List.set_cons_succ])
                    refine wpAnyH_take (i := 12) (v := undef) rfl (by kernel_rfl) (by kernel_rfl) (by kernel_rfl) (fun _ _ _ h => h) (Or.inr ⟨by first | (simp [Region.wanted, yielded]; done) | (simp [Region.wanted, yielded, undef]; done), rfl⟩) (HC.out _ D9.out) ?_
                    try (simp only [Act.put, List.getElem_toArray, List.getElem_cons_succ, List.getElem_cons_zero, List.setIfInBounds_toArray, List.set_cons_zero, List.set_cons_succ])
                    refine wpAnyH_take (i := 13) (v := undef) rfl (by kernel_rfl) (by kernel_rfl) (by kernel_rfl) (fun _ _ _ h => h) (Or.inr ⟨by first | (simp [Region.wanted, yielded]; done) | (simp [Region.wanted, yielded, undef]; done), rfl⟩) (HC.out _ D9.out) ?_
                    try (simp only [Act.put, List.getElem_toArray, List.getElem_cons_succ, List.getElem_cons_zero, List.setIfInBounds_toArray, List.set_cons_zero, List.set_cons_succ])
                    refine wpAnyH_take (i := 14) (v := .bool false) rfl (by kernel_rfl) (by kernel_rfl) (by kernel_rfl) (fun _ _ _ h => h) (Or.inl ⟨by simp [Region.wanted, yielded], fun W hW => by obtain ⟨s0, s1, s2, s3, s4, s5⟩ := hW; go_simp⟩) (HC.out _ D9.out) ?_
                    try (simp only [Act.put, List.getElem_toArray, List.getElem_cons_succ, List.getElem_cons_zero, List.setIfInBounds_toArray, List.set_cons_zero, List.set_cons_succ])
                    refine wpAnyH_take (i := 15) (v := .bool false) rfl (by kernel_rfl) (by kernel_rfl) (by kernel_rfl) (fun _ _ _ h => h) (Or.inl ⟨by simp [Region.wanted, yielded], fun W hW => by obtain ⟨s0, s1, s2, s3, s4, s5⟩ := hW; go_simp⟩) (HC.out _ D9.out) ?_
                    try (simp only [Act.put, List.getElem_toArray, List.getElem_cons_succ, List.getElem_cons_zero, List.setIfInBounds_toArray, List.set_cons_zero, List.set_cons_succ])
                    refine wpAnyH_take (i := 16) (v := .agg #[.int .u64 ql, .slice qa qn qc]) rfl (by kernel_rfl) (by kernel_rfl) (by kernel_rfl) (fun _ _ _ h => h) (Or.inl ⟨by simp [Region.wanted, yielded], fun W hW => by obtain ⟨s0, s1, s2, s3, s4, s5⟩ := hW; go_simp⟩) (HC.out _ D9.out) ?_
                    try (simp only [Act.put, List.getElem_toArray, List.getElem_cons_succ, List.getElem_cons_zero, List.setIfInBounds_toArray, List.set_cons_zero, List.set_cons_succ])
                    refine wpAnyH_take (i := 17) (v := .agg #[.int .u64 pl, .slice pa pn pc]) rfl (by kernel_rfl) (by kernel_rfl) (by kernel_rfl) (fun _ _ _ h => h) (Or.inl ⟨by simp [Region.wanted, yielded], fun W hW => by obtain ⟨s0, s1, s2, s3, s4, s5⟩ := hW; go_simp⟩) (HC.out _ D9.out) ?_
                    try (simp only [Act.put, List.getElem_toArray, List.getElem_cons_succ, List.getElem_cons_zero, List.setIfInBounds_toArray, List.set_cons_zero, List.set_cons_succ])
                    refine wpAnyH_take (i := 19) (v := .slice (some ⟨gp, ofp, none⟩) m c) rfl (by kernel_rfl) (by kernel_rfl) (by kernel_rfl) (fun _ _ _ h => h) (Or.inl ⟨by simp [Region.wanted, yielded], fun W hW => by obtain ⟨s0, s1, s2, s3, s4, s5⟩ := hW; go_simp⟩) (HC.out _ D9.out) ?_
                    try (simp only [Act.put, List.getElem_toArray, List.getElem_cons_succ, List.getElem_cons_zero, List.setIfInBounds_toArray, List.set_cons_zero, List.set_cons_succ])
                    refine wpAnyH_take (i := 20) (v := .int .i64 i) rfl (by kernel_rfl) (by kernel_rfl) (by kernel_rfl) (fun _ _ _ h => h) (Or.inl ⟨by simp [Region.wanted, yielded], fun W hW => by obtain ⟨s0, s1, s2, s3, s4, s5⟩ := hW; go_simp⟩) (HC.out _ D9.out) ?_
                    try (simp only [Act.put, List.getElem_toArray, List.getElem_cons_succ, List.getElem_cons_zero, List.setIfInBounds_toArray, List.set_cons_zero, List.set_cons_succ])
                    refine wpAnyH_take (i := 21) (v := .pointer (some ⟨gp, ofp + i, none⟩)) rfl (by kernel_rfl) (by kernel_rfl) (by kernel_rfl) (fun _ _ _ h => h) (Or.inl ⟨by simp [Region.wanted, yielded], fun W hW => by obtain ⟨s0, s1, s2, s3, s4, s5⟩ := hW; go_simp⟩) (HC.out _ D9.out) ?_
                    try (simp only [Act.put, List.getElem_toArray, List.getElem_cons_succ, List.getElem_cons_zero, List.setIfInBounds_toArray, List.set_cons_zero, List.set_cons_succ])
                    refine wpAnyH_take (i := 22) (v := .string xi) rfl (by kernel_rfl) (by kernel_rfl) (by kernel_rfl) (fun _ _ _ h => h) (Or.inl ⟨by simp [Region.wanted, yielded], fun W hW => by obtain ⟨s0, s1, s2, s3, s4, s5⟩ := hW; go_simp⟩) (HC.out _ D9.out) ?_
                    try (simp only [Act.put, List.getElem_toArray, List.getElem_cons_succ, List.getElem_cons_zero, List.setIfInBounds_toArray, List.set_cons_zero, List.set_cons_succ])
                    refine wpAnyH_take (i := 23) (v := .slice (some ⟨gp, ofp, none⟩) m c) rfl (by kernel_rfl) (by kernel_rfl) (by kernel_rfl) (fun _ _ _ h => h) (Or.inl ⟨by simp [Region.wanted, yielded], fun W hW => by obtain ⟨s0, s1, s2, s3, s4, s5⟩ := hW; go_simp⟩) (HC.out _ D9.out) ?_
                    try (simp only [Act.put, List.getElem_toArray, List.getElem_cons_succ, List.getElem_cons_zero, List.setIfInBounds_toArray, List.set_cons_zero, List.set_cons_succ])
                    refine wpAnyH_take (i := 24) (v := .int .i64 j) rfl (by kernel_rfl) (by kernel_rfl) (by kernel_rfl) (fun _ _ _ h => h) (Or.inl ⟨by simp [Region.wanted, yielded], fun W hW => by obtain ⟨s0, s1, s2, s3, s4, s5⟩ := hW; go_simp⟩) (HC.out _ D9.out) ?_
                    try (simp only [Act.put, List.getElem_toArray, List.getElem_cons_succ, List.getElem_cons_zero, List.setIfInBounds_toArray, List.set_cons_zero, List.set_cons_succ])
                    refine wpAnyH_take (i := 25) (v := .pointer (some ⟨gp, ofp + j, none⟩)) rfl (by kernel_rfl) (by kernel_rfl) (by kernel_rfl) (fun _ _ _ h => h) (Or.inl ⟨by simp [Region.wanted, yielded], fun W hW => by obtain ⟨s0, s1, s2, s3, s4, s5⟩ := hW; go_simp⟩) (HC.out _ D9.out) ?_
                    try (simp only [Act.put, List.getElem_toArray, List.getElem_cons_succ, List.getElem_cons_zero, List.setIfInBounds_toArray, List.set_cons_zero, List.set_cons_succ])
                    refine wpAnyH_take (i := 26) (v := .string xj) rfl (by kernel_rfl) (by kernel_rfl) (by kernel_rfl) (fun _ _ _ h => h) (Or.inl ⟨by simp [Region.wanted, yielded], fun W hW => by obtain ⟨s0, s1, s2, s3, s4, s5⟩ := hW; go_simp⟩) (HC.out _ D9.out) ?_
                    try (simp only [Act.put, List.getElem_toArray, List.getElem_cons_succ, List.getElem_cons_zero, List.setIfInBounds_toArray, List.set_cons_zero, List.set_cons_succ])
                    refine wpAnyH_ready (rs := [18]) (by kernel_rfl) (by simp) ?_
                    refine AllReadyH.cons (o := _) rfl (fun KK hKK => ?_) AllReadyH.nil
                    go_simp
                    go_at_call 31
                    refine (HW1.out _ D9.out).mono ?_
                    rintro e wz12 ⟨rfl, kz12⟩
                    have D12 := Lib.hid (D9.out.then kz12); clear kz12
                    try go_wp2_with fail
                    refine hKK.out _ _ (HC.out _ D12.out) (fun _ => ?_)
                    clear hKK KK
                    try (simp only [Act.put, List.getElem_toArray, List.getElem_cons_succ, List.getElem_cons_zero, List.setIfInBounds_toArray, List.set_cons_zero, List.set_cons_succ])
                    refine wpAnyH_ready (rs := [27]) (by kernel_rfl) (by simp) ?_
                    refine AllReadyH.cons (o := _) rfl (fun KK hKK => ?_) AllReadyH.nil
                    go_simp
                    go_at_call 27
                    refine (HPW.out _ D12.out).mono ?_
                    rintro e wz13 ⟨rfl, kz13⟩
                    have D13 := Lib.hid (D12.out.then kz13); clear kz13
                    try go_wp2_with fail
                    refine hKK.out _ _ (HC.out _ D13.out) (fun _ => ?_)
                    clear hKK KK
                    try (simp only [Act.put, List.getElem_toArray, List.getElem_cons_succ, List.getElem_cons_zero, List.setIfInBounds_toArray, List.set_cons_zero, List.set_cons_succ])
                    refine wpAnyH_take (i := 28) (v := .bool false) rfl (by kernel_rfl) (by kernel_rfl) (by kernel_rfl) (fun _ _ _ h => h) (Or.inl ⟨by simp [Region.wanted, yielded], fun W hW => by obtain ⟨s0, s1, s2, s3, s4, s5⟩ := hW; go_simp⟩) (HC.out _ D13.out) ?_
                    try (simp only [Act.put, List.getElem_toArray, List.getElem_cons_succ, List.getElem_cons_zero, List.setIfInBounds_toArray, List.set_cons_zero, List.set_cons_succ])
                    refine wpAnyH_take (i := 29) (v := .bool false) rfl (by kernel_rfl) (by kernel_rfl) (by kernel_rfl) (fun _ _ _ h => h) (Or.inl ⟨by simp [Region.wanted, yielded], fun W hW => by obtain ⟨s0, s1, s2, s3, s4, s5⟩ := hW; go_simp⟩) (HC.out _ D13.out) ?_
                    try (simp only [Act.put, List.getElem_toArray, List.getElem_cons_succ, List.getElem_cons_zero, List.setIfInBounds_toArray, List.set_cons_zero, List.set_cons_succ])
                    refine wpAnyH_done (by kernel_rfl) ?_ _
                    have KF := Lib.hid (HKJ.out.then D13.out)
                    clear D8 D9 D12 D13 HC HME HW1 HW2 HPW
                    go_wp2_with fail
                    go_roundw
                    case rel => first | exact ⟨j + 1, by omega, by go_num, KF⟩ | ((repeat apply Exists.intro); exact ⟨⟨j + 1, by omega, by go_num, KF⟩, rfl⟩)
                    case measure => simp [intOf]; omega
                  · refine wpAnyH_take (i := 0) (v := .agg #[.int .u64 ql, .slice qa qn qc]) rfl (by kernel_rfl) (by kernel_rfl) (by kernel_rfl) (fun _ _ _ h => h) (Or.inl ⟨by simp [Region.wanted, yielded], fun W hW => by obtain ⟨s0, s1, s2, s3, s4, s5⟩ := hW; go_simp⟩) (HC.out _ D8.out) ?_
                    try (simp only [Act.put, List.getElem_toArray, List.getElem_cons_succ, List.getElem_cons_zero, List.setIfInBounds_toArray, List.set_cons_zero, List.set_cons_succ])
                    refine wpAnyH_take (i := 1) (v := .agg #[.int .u64 pl, .slice pa pn pc]) rfl (by kernel_rfl) (by kernel_rfl) (by kernel_rfl) (fun _ _ _ h => h) (Or.inl ⟨by simp [Region.wanted, yielded], fun W hW => by obtain ⟨s0, s1, s2, s3, s4, s5⟩ := hW; go_simp⟩) (HC.out _ D8.out) ?_
                    try (simp only [Act.put, List.getElem_toArray, List.getElem_cons_succ, List.getElem_cons_zero, List.setIfInBounds_toArray, List.set_cons_zero, List.set_cons_succ])
                    refine wpAnyH_ready (rs := [2]) (by kernel_rfl) (by simp) ?_
                    refine AllReadyH.cons (o := _) rfl (fun KK hKK => ?_) AllReadyH.nil
                    go_simp
                    go_at_call 30
                    refine (HME.out _ D8.out).mono ?_
                    rintro e wz9 ⟨rfl, kz9⟩
                    have D9 := Lib.hid (D8.out.then kz9); clear kz9
                    try go_wp2_with fail
                    refine hKK.out _ _ (HC.out _ D9.out) (fun _ => ?_)
                    clear hKK KK
                    try (simp only [Act.put, List.getElem_toArray, List.getElem_cons_succ, List.getElem_cons_zero, List.setIfInBounds_toArray, List.set_cons_zero, List.set_cons_succ])
                    refine wpAnyH_take (i := 3) (v := .bool true) rfl (by kernel_rfl) (by kernel_rfl) (by kernel_rfl) (fun _ _ _ h => h) (Or.inl ⟨by simp [Region.wanted, yielded], fun W hW => by obtain ⟨s0, s1, s2, s3, s4, s5⟩ := hW; go_simp⟩) (HC.out _ D9.out) ?_
                    try (simp only [Act.put, List.getElem_toArray, List.getElem_cons_succ, List.getElem_cons_zero, List.setIfInBounds_toArray, List.set_cons_zero, List.set_cons_succ])
                    refine wpAnyH_take (i := 4) (v := .agg #[.int .u64 ql, .slice qa qn qc]) rfl (by kernel_rfl) (by kernel_rfl) (by kernel_rfl) (fun _ _ _ h => h) (Or.inl ⟨by simp [Region.wanted, yielded], fun W hW => by obtain ⟨s0, s1, s2, s3, s4, s5⟩ := hW; go_simp⟩) (HC.out _ D9.out) ?_
                    try (simp only [Act.put, List.getElem_toArray, List.getElem_cons_succ, List.getElem_cons_zero, List.setIfInBounds_toArray, List.set_cons_zero, List.set_cons_succ])
                    refine wpAnyH_take (i := 5) (v := .agg #[.int .u64 pl, .slice pa pn pc]) rfl (by kernel_rfl) (by kernel_rfl) (by kernel_rfl) (fun _ _ _ h => h) (Or.inl ⟨by simp [Region.wanted, yielded], fun W hW => by obtain ⟨s0, s1, s2, s3, s4, s5⟩ := hW; go_simp⟩) (HC.out _ D9.out) ?_
                    try (simp only [Act.put, List.getElem_toArray, List.getElem_cons_succ, List.getElem_cons_zero, List.setIfInBounds_toArray, List.set_cons_zero, List.set_cons_succ])
                    refine wpAnyH_ready (rs := [6]) (by kernel_rfl) (by simp) ?_
                    refine AllReadyH.cons (o := _) rfl (fun KK hKK => ?_) AllReadyH.nil
                    go_simp
                    go_at_call 31
                    refine (HW1.out _ D9.out).mono ?_
                    rintro e wz10 ⟨rfl, kz10⟩
                    have D10 := Lib.hid (D9.out.then kz10); clear kz10
                    try go_wp2_with fail
                    refine hKK.out _ _ (HC.out _ D10.out) (fun _ => ?_)
                    clear hKK KK
                    try (simp only [Act.put, List.getElem_toArray, List.getElem_cons_succ, List.getElem_cons_zero, List.setIfInBounds_toArray, List.set_cons_zero, List.set_cons_succ])
                    refine wpAnyH_take (i := 7) (v := .bool false) rfl (by kernel_rfl) (by kernel_rfl) (by kernel_rfl) (fun _ _ _ h => h) (Or.inl ⟨by simp [Region.wanted, yielded], fun W hW => by obtain ⟨s0, s1, s2, s3, s4, s5⟩ := hW; go_simp⟩) (HC.out _ D10.out) ?_
                    try (simp only [Act.put, List.getElem_toArray, List.getElem_cons_succ, List.getElem_cons_zero, List.setIfInBounds_toArray, List.set_cons_zero, List.set_cons_succ])
                    refine wpAnyH_take (i := 8) (v := .bool false) rfl (by kernel_rfl) (by kernel_rfl) (by kernel_rfl) (fun _ _ _ h => h) (Or.inl ⟨by simp [Region.wanted, yielded], fun W hW => by obtain ⟨s0, s1, s2, s3, s4, s5⟩ := hW; go_simp⟩) (HC.out _ D10.out) ?_
                    try (simp only [Act.put, List.getElem_toArray, List.getElem_cons_succ, List.getElem_cons_zero, List.setIfInBounds_toArray, List.set_cons_zero, List.set_cons_succ])
                    refine wpAnyH_take (i := 9) (v := .bool false) rfl (by kernel_rfl) (by kernel_rfl) (by kernel_rfl) (fun _ _ _ h => h) (Or.inl ⟨by simp [Region.wanted, yielded], fun W hW => by obtain ⟨s0, s1, s2, s3, s4, s5⟩ := hW; go_simp⟩) (HC.out _ D10.out) ?_
                    try (simp only [Act.put, List.getElem_toArray, List.getElem_cons_succ, List.getElem_cons_zero, List.setIfInBounds_toArray, List.set_cons_zero, List.set_cons_succ])
                    refine wpAnyH_take (i := 10) (v := undef) rfl (by kernel_rfl) (by kernel_rfl) (by kernel_rfl) (fun _ _ _ h => h) (Or.inr ⟨by first | (simp [Region.wanted, yielded]; done) | (simp [Region.wanted, yielded, undef]; done), rfl⟩) (HC.out _ D10.out) ?_
                    try (simp only [Act.put, List.getElem_toArray, List.getElem_cons_succ, List.getElem_cons_zero, List.setIfInBounds_toArray, List.set_cons_zero, List.set_cons_succ])
                    refine wpAnyH_take (i := 11) (v := undef) rfl (by kernel_rfl) (by kernel_rfl) (by kernel_rfl) (fun _ _ _ h => h) (Or.inr ⟨by first | (simp [Region.wanted, yielded]; done) | (simp [Region.wanted, yielded, undef]; done), rfl⟩) (HC.out _ D10.out) ?_
                    try (simp only [Act.put, List.getElem_toArray, List.getElem_cons_succ, List.getElem_cons_zero, List.setIfInBounds_toArray, List.set_cons_zero, List.set_cons_succ])
                    refine wpAnyH_take (i := 12) (v := undef) rfl (by kernel_rfl) (by kernel_rfl) (by kernel_rfl) (fun _ _ _ h => h) (Or.inr ⟨by first | (simp [Region.wanted, yielded]; done) | (simp [Region.wanted, yielded, undef]; done), rfl⟩) (HC.out _ D10.out) ?_
                    try (simp only [Act.put, List.getElem_toArray, List.getElem_cons_succ, List.getElem_cons_zero, List.setIfInBounds_toArray, List.set_cons_zero, List.set_cons_succ])
                    refine wpAnyH_take (i := 13) (v := undef) rfl (by kernel_rfl) (by kernel_rfl) (by kernel_rfl) (fun _ _ _ h => h) (Or.inr ⟨by first | (simp [Region.wanted, yielded]; done) | (simp [Region.wanted, yielded, undef]; done), rfl⟩) (HC.out _ D10.out) ?_
                    try (simp only [Act.put, List.getElem_toArray, List.getElem_cons_succ, List.getElem_cons_zero, List.setIfInBounds_toArray, List.set_cons_zero, List.set_cons_succ])
                    refine wpAnyH_take (i := 14) (v := .bool false) rfl (by kernel_rfl) (by kernel_rfl) (by kernel_rfl) (fun _ _ _ h => h) (Or.inl ⟨by simp [Region.wanted, yielded], fun W hW => by obtain ⟨s0, s1, s2, s3, s4, s5⟩ := hW; go_simp⟩) (HC.out _ D10.out) ?_
                    try (simp only [Act.put, List.getElem_toArray, List.getElem_cons_succ, List.getElem_cons_zero, List.setIfInBounds_toArray, List.set_cons_zero, List.set_cons_succ])
                    refine wpAnyH_take (i := 15) (v := .bool false) rfl (by kernel_rfl) (by kernel_rfl) (by kernel_rfl) (fun _ _ _ h => h) (Or.inl ⟨by simp [Region.wanted, yielded], fun W hW => by obtain ⟨s0, s1, s2, s3, s4, s5⟩ := hW; go_simp⟩) (HC.out _ D10.out) ?_
                    try (simp only [Act.put, List.getElem_toArray, List.getElem_cons_succ, List.getElem_cons_zero, List.setIfInBounds_toArray, List.set_cons_zero, List.set_cons_succ])
                    refine wpAnyH_take (i := 16) (v := .agg #[.int .u64 ql, .slice qa qn qc]) rfl (by kernel_rfl) (by kernel_rfl) (by kernel_rfl) (fun _ _ _ h => h) (Or.inl ⟨by simp [Region.wanted, yielded], fun W hW => by obtain ⟨s0, s1, s2, s3, s4, s5⟩ := hW; go_simp⟩) (HC.out _ D10.out) ?_
                    try (simp only [Act.put, List.getElem_toArray, List.getElem_cons_succ, List.getElem_cons_zero, List.setIfInBounds_toArray, List.set_cons_zero, List.set_cons_succ])
                    refine wpAnyH_take (i := 17) (v := .agg #[.int .u64 pl, .slice pa pn pc]) rfl (by kernel_rfl) (by kernel_rfl) (by kernel_rfl) (fun _ _ _ h => h) (Or.inl ⟨by simp [Region.wanted, yielded], fun W hW => by obtain ⟨s0, s1, s2, s3, s4, s5⟩ := hW; go_simp⟩) (HC.out _ D10.out) ?_
                    try (simp only [Act.put, List.getElem_toArray, List.getElem_cons_succ, List.getElem_cons_zero, List.setIfInBounds_toArray, List.set_cons_zero, List.set_cons_succ])
                    refine wpAnyH_take (i := 19) (v := .slice (some ⟨gp, ofp, none⟩) m c) rfl (by kernel_rfl) (by kernel_rfl) (by kernel_rfl) (fun _ _ _ h => h) (Or.inl ⟨by simp [Region.wanted, yielded], fun W hW => by obtain ⟨s0, s1, s2, s3, s4, s5⟩ := hW; go_simp⟩) (HC.out _ D10.out) ?_
                    try (simp only [Act.put, List.getElem_toArray, List.getElem_cons_succ, List.getElem_cons_zero, List.setIfInBounds_toArray, List.set_cons_zero, List.set_cons_succ])
                    refine wpAnyH_take (i := 20) (v := .int .i64 i) rfl (by kernel_rfl) (by kernel_rfl) (by kernel_rfl) (fun _ _ _ h => h) (Or.inl ⟨by simp [Region.wanted, yielded], fun W hW => by obtain ⟨s0, s1, s2, s3, s4, s5⟩ := hW; go_simp⟩) (HC.out _ D10.out) ?_
                    try (simp only [Act.put, List.getElem_toArray, List.getElem_cons_succ, List.getElem_cons_zero, List.setIfInBounds_toArray, List.set_cons_zero, List.set_cons_succ])
                    refine wpAnyH_take (i := 21) (v := .pointer (some ⟨gp, ofp + i, none⟩)) rfl (by kernel_rfl) (by kernel_rfl) (by kernel_rfl) (fun _ _ _ h => h) (Or.inl ⟨by simp [Region.wanted, yielded], fun W hW => by obtain ⟨s0, s1, s2, s3, s4, s5⟩ := hW; go_simp⟩) (HC.out _ D10.out) ?_
                    try (simp only [Act.put, List.getElem_toArray, List.getElem_cons_succ, List.getElem_cons_zero, List.setIfInBounds_toArray, List.set_cons_zero, List.set_cons_succ])
                    refine wpAnyH_take (i := 22) (v := .string xi) rfl (by kernel_rfl) (by kernel_rfl) (by kernel_rfl) (fun _ _ _ h => h) (Or.inl ⟨by simp [Region.wanted, yielded], fun W hW => by obtain ⟨s0, s1, s2, s3, s4, s5⟩ := hW; go_simp⟩) (HC.out _ D10.out) ?_
                    try (simp only [Act.put, List.getElem_toArray, List.getElem_cons_succ, List.getElem_cons_zero, List.setIfInBounds_toArray, List.set_cons_zero, List.set_cons_succ])
                    refine wpAnyH_take (i := 23) (v := .slice (some ⟨gp, ofp, none⟩) m c) rfl (by kernel_rfl) (by kernel_rfl) (by kernel_rfl) (fun _ _ _ h => h) (Or.inl ⟨by simp [Region.wanted, yielded], fun W hW => by obtain ⟨s0, s1, s2, s3, s4, s5⟩ := hW; go_simp⟩) (HC.out _ D10.out) ?_
                    try (simp only [Act.put, List.getElem_toArray, List.getElem_cons_succ, List.getElem_cons_zero, List.setIfInBounds_toArray, List.set_cons_zero, List.set_cons_succ])
                    refine wpAnyH_take (i := 24) (v := .int .i64 j) rfl (by kernel_rfl) (by kernel_rfl) (by kernel_rfl) (fun _ _ _ h => h) (Or.inl ⟨by simp [Region.wanted, yielded], fun W hW => by obtain ⟨s0, s1, s2, s3, s4, s5⟩ := hW; go_simp⟩) (HC.out _ D10.out) ?_
                    try (simp only [Act.put, List.getElem_toArray, List.getElem_cons_succ, List.getElem_cons_zero, List.setIfInBounds_toArray, List.set_cons_zero, List.set_cons_succ])
                    refine wpAnyH_take (i := 25) (v := .pointer (some ⟨gp, ofp + j, none⟩)) rfl (by kernel_rfl) (by kernel_rfl) (by kernel_rfl) (fun _ _ _ h => h) (Or.inl ⟨by simp [Region.wanted, yielded], fun W hW => by obtain ⟨s0, s1, s2, s3, s4, s5⟩ := hW; go_simp⟩) (HC.out _ D10.out) ?_
                    try (simp only [Act.put, List.getElem_toArray, List.getElem_cons_succ, List.getElem_cons_zero, List.setIfInBounds_toArray, List.set_cons_zero, List.set_cons_succ])
                    refine wpAnyH_take (i := 26) (v := .string xj) rfl (by kernel_rfl) (by kernel_rfl) (by kernel_rfl) (fun _ _ _ h => h) (Or.inl ⟨by simp [Region.wanted, yielded], fun W hW => by obtain ⟨s0, s1, s2, s3, s4, s5⟩ := hW; go_simp⟩) (HC.out _ D10.out) ?_
                    try (simp only [Act.put, List.getElem_toArray, List.getElem_cons_succ, List.getElem_cons_zero, List.setIfInBounds_toArray, List.set_cons_zero, List.set_cons_succ])
                    refine wpAnyH_ready (rs := [18]) (by kernel_rfl) (by simp) ?_
                    refine AllReadyH.cons (o := _) rfl (fun KK hKK => ?_) AllReadyH.nil
                    go_simp
                    go_at_call 31
                    refine (HW1.out _ D10.out).mono ?_
                    rintro e wz12 ⟨rfl, kz12⟩
                    have D12 := Lib.hid (D10.out.then kz12); clear kz12
                    try go_wp2_with fail
                    refine hKK.out _ _ (HC.out _ D12.out) (fun _ => ?_)
                    clear hKK KK
                    try (simp only [Act.put, List.getElem_toArray, List.getElem_cons_succ, List.getElem_cons_zero, List.setIfInBounds_toArray, List.set_cons_zero, List.set_cons_succ])
                    refine wpAnyH_ready (rs := [27]) (by kernel_rfl) (by simp) ?_
                    refine AllReadyH.cons (o := _) rfl (fun KK hKK => ?_) AllReadyH.nil
                    go_simp
                    go_at_call 27
                    refine (HPW.out _ D12.out).mono ?_
                    rintro e wz13 ⟨rfl, kz13⟩
                    have D13 := Lib.hid (D12.out.then kz13); clear kz13
                    try go_wp2_with fail
                    refine hKK.out _ _ (HC.out _ D13.out) (fun _ => ?_)
                    clear hKK KK
                    try (simp only [Act.put, List.getElem_toArray, List.getElem_cons_succ, List.getElem_cons_zero, List.setIfInBounds_toArray, List.set_cons_zero, List.set_cons_succ])
                    refine wpAnyH_take (i := 28) (v := .bool false) rfl (by kernel_rfl) (by kernel_rfl) (by kernel_rfl) (fun _ _ _ h => h) (Or.inl ⟨by simp [Region.wanted, yielded], fun W hW => by obtain ⟨s0, s1, s2, s3, s4, s5⟩ := hW; go_simp⟩) (HC.out _ D13.out) ?_
                    try (simp only [Act.put, List.getElem_toArray, List.getElem_cons_succ, List.getElem_cons_zero, List.setIfInBounds_toArray, List.set_cons_zero, List.set_cons_succ])
                    refine wpAnyH_take (i := 29) (v := .bool false) rfl (by kernel_rfl) (by kernel_rfl) (by kernel_rfl) (fun _ _ _ h => h) (Or.inl ⟨by simp [Region.wanted, yielded], fun W hW => by obtain ⟨s0, s1, s2, s3, s4, s5⟩ := hW; go_simp⟩) (HC.out _ D13.out) ?_
                    try (simp only [Act.put, List.getElem_toArray, List.getElem_cons_succ, List.getElem_cons_zero, List.setIfInBounds_toArray, List.set_cons_zero, List.set_cons_succ])
                    refine wpAnyH_done (by kernel_rfl) ?_ _
                    have KF := Lib.hid (HKJ.out.then D13.out)
                    clear D8 D9 D12 D13 HC HME HW1 HW2 HPW
                    go_wp2_with fail
                    go_roundw
                    case rel => first | exact ⟨j + 1, by omega, by go_num, KF⟩ | ((repeat apply Exists.intro); exact ⟨⟨j + 1, by omega, by go_num, KF⟩, rfl⟩)
                    case measure => simp [intOf]; omega
                  · refine wpAnyH_take (i := 0) (v := .agg #[.int .u64 ql, .slice qa qn qc]) rfl (by kernel_rfl) (by kernel_rfl) (by kernel_rfl) (fun _ _ _ h => h) (Or.inl ⟨by simp [Region.wanted, yielded], fun W hW => by obtain ⟨s0, s1, s2, s3, s4, s5⟩ := hW; go_simp⟩) (HC.out _ D8.out) ?_
                    try (simp only [Act.put, List.getElem_toArray, List.getElem_cons_succ, List.getElem_cons_zero, List.setIfInBounds_toArray, List.set_cons_zero, List.set_cons_succ])
                    refine wpAnyH_take (i := 1) (v := .agg #[.int .u64 pl, .slice pa pn pc]) rfl (by kernel_rfl) (by kernel_rfl) (by kernel_rfl) (fun _ _ _ h => h) (Or.inl ⟨by simp [Region.wanted, yielded], fun W hW => by obtain ⟨s0, s1, s2, s3, s4, s5⟩ := hW; go_simp⟩) (HC.out _ D8.out) ?_
                    try (simp only [Act.put, List.getElem_toArray, List.getElem_cons_succ, List.getElem_cons_zero, List.setIfInBounds_toArray, List.set_cons_zero, List.set_cons_succ])
                    refine wpAnyH_ready (rs := [2]) (by kernel_rfl) (by simp) ?_
                    refine AllReadyH.cons (o := _) rfl (fun KK hKK => ?_) AllReadyH.nil
                    go_simp
                    go_at_call 30
                    refine (HME.out _ D8.out).mono ?_
                    rintro e wz9 ⟨rfl, kz9⟩
                    have D9 := Lib.hid (D8.out.then kz9); clear kz9
                    try go_wp2_with fail
                    refine hKK.out _ _ (HC.out _ D9.out) (fun _ => ?_)
                    clear hKK KK
                    try (simp only [Act.put, List.getElem_toArray, List.getElem_cons_succ, List.getElem_cons_zero, List.setIfInBounds_toArray, List.set_cons_zero, List.set_cons_succ])
                    refine wpAnyH_take (i := 3) (v := .bool true) rfl (by kernel_rfl) (by kernel_rfl) (by kernel_rfl) (fun _ _ _ h => h) (Or.inl ⟨by simp [Region.wanted, yielded], fun W hW => by obtain ⟨s0, s1, s2, s3, s4, s5⟩ := hW; go_simp⟩) (HC.out _ D9.out) ?_
                    try (simp only [Act.put, List.getElem_toArray, List.getElem_cons_succ, List.getElem_cons_zero, List.setIfInBounds_toArray, List.set_cons_zero, List.set_cons_succ])
                    refine wpAnyH_take (i := 4) (v := .agg #[.int .u64 ql, .slice qa qn qc]) rfl (by kernel_rfl) (by kernel_rfl) (by kernel_rfl) (fun _ _ _ h => h) (Or.inl ⟨by simp [Region.wanted, yielded], fun W hW => by obtain ⟨s0, s1, s2, s3, s4, s5⟩ := hW; go_simp⟩) (HC.out _ D9.out) ?_
                    try (simp only [Act.put, List.getElem_toArray, List.getElem_cons_succ, List.getElem_cons_zero, List.setIfInBounds_toArray, List.set_cons_zero, List.set_cons_succ])
                    refine wpAnyH_take (i := 5) (v := .agg #[.int .u64 pl, .slice pa pn pc]) rfl (by kernel_rfl) (by kernel_rfl) (by kernel_rfl) (fun _ _ _ h => h) (Or.inl ⟨by simp [Region.wanted, yielded], fun W hW => by obtain ⟨s0, s1, s2, s3, s4, s5⟩ := hW; go_simp⟩) (HC.out _ D9.out) ?_
                    try (simp only [Act.put, List.getElem_toArray, List.getElem_cons_succ, List.getElem_cons_zero, List.setIfInBounds_toArray, List.set_cons_zero, List.set_cons_succ])
                    refine wpAnyH_ready (rs := [6]) (by kernel_rfl) (by simp) ?_
                    refine AllReadyH.cons (o := _) rfl (fun KK hKK => ?_) AllReadyH.nil
                    go_simp
                    go_at_call 31
                    refine (HW1.out _ D9.out).mono ?_
                    rintro e wz10 ⟨rfl, kz10⟩
                    have D10 := Lib.hid (D9.out.then kz10); clear kz10
                    try go_wp2_with fail
                    refine hKK.out _ _ (HC.out _ D10.out) (fun _ => ?_)
                    clear hKK KK
                    try (simp only [Act.put, List.getElem_toArray, List.getElem_cons_succ, List.getElem_cons_zero, List.setIfInBounds_toArray, List.set_cons_zero, List.set_cons_succ])
                    refine wpAnyH_take (i := 7) (v := .bool true) rfl (by kernel_rfl) (by kernel_rfl) (by kernel_rfl) (fun _ _ _ h => h) (Or.inl ⟨by simp [Region.wanted, yielded], fun W hW => by obtain ⟨s0, s1, s2, s3, s4, s5⟩ := hW; go_simp⟩) (HC.out _ D10.out) ?_
                    try (simp only [Act.put, List.getElem_toArray, List.getElem_cons_succ, List.getElem_cons_zero, List.setIfInBounds_toArray, List.set_cons_zero, List.set_cons_succ])
                    refine wpAnyH_take (i := 8) (v := .bool true) rfl (by kernel_rfl) (by kernel_rfl) (by kernel_rfl) (fun _ _ _ h => h) (Or.inl ⟨by simp [Region.wanted, yielded], fun W hW => by obtain ⟨s0, s1, s2, s3, s4, s5⟩ := hW; go_simp⟩) (HC.out _ D10.out) ?_
                    try (simp only [Act.put, List.getElem_toArray, List.getElem_cons_succ, List.getElem_cons_zero, List.setIfInBounds_toArray, List.set_cons_zero, List.set_cons_succ])
                    refine wpAnyH_take (i := 9) (v := .bool true) rfl (by kernel_rfl) (by kernel_rfl) (by kernel_rfl) (fun _ _ _ h => h) (Or.inl ⟨by simp [Region.wanted, yielded], fun W hW => by obtain ⟨s0, s1, s2, s3, s4, s5⟩ := hW; go_simp⟩) (HC.out _ D10.out) ?_
                    try (simp only [Act.put, List.getElem_toArray, List.getElem_cons_succ, List.getElem_cons_zero, List.setIfInBounds_toArray, List.set_cons_zero, List.set_cons_succ])
                    refine wpAnyH_take (i := 10) (v := .agg #[.int .u64 pl, .slice pa pn pc]) rfl (by kernel_rfl) (by kernel_rfl) (by kernel_rfl) (fun _ _ _ h => h) (Or.inl ⟨by simp [Region.wanted, yielded], fun W hW => by obtain ⟨s0, s1, s2, s3, s4, s5⟩ := hW; go_simp⟩) (HC.out _ D10.out) ?_
                    try (simp only [Act.put, List.getElem_toArray, List.getElem_cons_succ, List.getElem_cons_zero, List.setIfInBounds_toArray, List.set_cons_zero, List.set_cons_succ])
                    refine wpAnyH_take (i := 11) (v := .agg #[.int .u64 ql, .slice qa qn qc]) rfl (by kernel_rfl) (by kernel_rfl) (by kernel_rfl) (fun _ _ _ h => h) (Or.inl ⟨by simp [Region.wanted, yielded], fun W hW => by obtain ⟨s0, s1, s2, s3, s4, s5⟩ := hW; go_simp⟩) (HC.out _ D10.out) ?_
                    try (simp only [Act.put, List.getElem_toArray, List.getElem_cons_succ, List.getElem_cons_zero, List.setIfInBounds_toArray, List.set_cons_zero, List.set_cons_succ])
                    refine wpAnyH_ready (rs := [12]) (by kernel_rfl) (by simp) ?_
                    refine AllReadyH.cons (o := _) rfl (fun KK hKK => ?_) AllReadyH.nil
                    go_simp
                    go_at_call 31
                    refine (HW2.out _ D10.out).mono ?_
                    rintro e wz11 ⟨rfl, kz11⟩
                    have D11 := Lib.hid (D10.out.then kz11); clear kz11
                    try go_wp2_with fail
                    refine hKK.out _ _ (HC.out _ D11.out) (fun _ => ?_)
                    clear hKK KK
                    try (simp only [Act.put, List.getElem_toArray, List.getElem_cons_succ, List.getElem_cons_zero, List.setIfInBounds_toArray, List.set_cons_zero, List.set_cons_succ])
                    refine wpAnyH_take (i := 13) (v := .bool false) rfl (by kernel_rfl) (by kernel_rfl) (by kernel_rfl) (fun _ _ _ h => h) (Or.inl ⟨by simp [Region.wanted, yielded], fun W hW => by obtain ⟨s0, s1, s2, s3, s4, s5⟩ := hW; go_simp⟩) (HC.out _ D11.out) ?_
                    try (simp only [Act.put, List.getElem_toArray, List.getElem_cons_succ, List.getElem_cons_zero, List.setIfInBounds_toArray, List.set_cons_zero, List.set_cons_succ])
                    refine wpAnyH_take (i := 14) (v := .bool false) rfl (by kernel_rfl) (by kernel_rfl) (by kernel_rfl) (fun _ _ _ h => h) (Or.inl ⟨by simp [Region.wanted, yielded], fun W hW => by obtain ⟨s0, s1, s2, s3, s4, s5⟩ := hW; go_simp⟩) (HC.out _ D11.out) ?_
                    try (simp only [Act.put, List.getElem_toArray, List.getElem_cons_succ, List.getElem_cons_zero, List.setIfInBounds_toArray, List.set_cons_zero, List.set_cons_succ])
                    refine wpAnyH_take (i := 15) (v := .bool false) rfl (by kernel_rfl) (by kernel_rfl) (by kernel_rfl) (fun _ _ _ h => h) (Or.inl ⟨by simp [Region.wanted, yielded], fun W hW => by obtain ⟨s0, s1, s2, s3, s4, s5⟩ := hW; go_simp⟩) (HC.out _ D11.out) ?_
                    try (simp only [Act.put, List.getElem_toArray, List.getElem_cons_succ, List.getElem_cons_zero, List.setIfInBounds_toArray, List.set_cons_zero, List.set_cons_succ])
                    refine wpAnyH_take (i := 16) (v := .agg #[.int .u64 ql, .slice qa qn qc]) rfl (by kernel_rfl) (by kernel_rfl) (by kernel_rfl) (fun _ _ _ h => h) (Or.inl ⟨by simp [Region.wanted, yielded], fun W hW => by obtain ⟨s0, s1, s2, s3, s4, s5⟩ := hW; go_simp⟩) (HC.out _ D11.out) ?_
                    try (simp only [Act.put, List.getElem_toArray, List.getElem_cons_succ, List.getElem_cons_zero, List.setIfInBounds_toArray, List.set_cons_zero, List.set_cons_succ])
                    refine wpAnyH_take (i := 17) (v := .agg #[.int .u64 pl, .slice pa pn pc]) rfl (by kernel_rfl) (by kernel_rfl) (by kernel_rfl) (fun _ _ _ h => h) (Or.inl ⟨by simp [Region.wanted, yielded], fun W hW => by obtain ⟨s0, s1, s2, s3, s4, s5⟩ := hW; go_simp⟩) (HC.out _ D11.out) ?_
                    try (simp only [Act.put, List.getElem_toArray, List.getElem_cons_succ, List.getElem_cons_zero, List.setIfInBounds_toArray, List.set_cons_zero, List.set_cons_succ])
                    refine wpAnyH_take (i := 19) (v := .slice (some ⟨gp, ofp, none⟩) m c) rfl (by kernel_rfl) (by kernel_rfl) (by kernel_rfl) (fun _ _ _ h => h) (Or.inl ⟨by simp [Region.wanted, yielded], fun W hW => by obtain ⟨s0, s1, s2, s3, s4, s5⟩ := hW; go_simp⟩) (HC.out _ D11.out) ?_
                    try (simp only [Act.put, List.getElem_toArray, List.getElem_cons_succ, List.getElem_cons_zero, List.setIfInBounds_toArray, List.set_cons_zero, List.set_cons_succ])
                    refine wpAnyH_take (i := 20) (v := .int .i64 i) rfl (by kernel_rfl) (by kernel_rfl) (by kernel_rfl) (fun _ _ _ h => h) (Or.inl ⟨by simp [Region.wanted, yielded], fun W hW => by obtain ⟨s0, s1, s2, s3, s4, s5⟩ := hW; go_simp⟩) (HC.out _ D11.out) ?_
                    try (simp only [Act.put, List.getElem_toArray, List.getElem_cons_succ, List.getElem_cons_zero, List.setIfInBounds_toArray, List.set_cons_zero, List.set_cons_succ])
                    refine wpAnyH_take (i := 21) (v := .pointer (some ⟨gp, ofp + i, none⟩)) rfl (by kernel_rfl) (by kernel_rfl) (by kernel_rfl) (fun _ _ _ h => h) (Or.inl ⟨by simp [Region.wanted, yielded], fun W hW => by obtain ⟨s0, s1, s2, s3, s4, s5⟩ := hW; go_simp⟩) (HC.out _ D11.out) ?_
                    try (simp only [Act.put, List.getElem_toArray, List.getElem_cons_succ, List.getElem_cons_zero, List.setIfInBounds_toArray, List.set_cons_zero, List.set_cons_succ])
                    refine wpAnyH_take (i := 22) (v := .string xi) rfl (by kernel_rfl) (by kernel_rfl) (by kernel_rfl) (fun _ _ _ h => h) (Or.inl ⟨by simp [Region.wanted, yielded], fun W hW => by obtain ⟨s0, s1, s2, s3, s4, s5⟩ := hW; go_simp⟩) (HC.out _ D11.out) ?_
                    try (simp only [Act.put, List.getElem_toArray, List.getElem_cons_succ, List.getElem_cons_zero, List.setIfInBounds_toArray, List.set_cons_zero, List.set_cons_succ])
                    refine wpAnyH_take (i := 23) (v := .slice (some ⟨gp, ofp, none⟩) m c) rfl (by kernel_rfl) (by kernel_rfl) (by kernel_rfl) (fun _ _ _ h => h) (Or.inl ⟨by simp [Region.wanted, yielded], fun W hW => by obtain ⟨s0, s1, s2, s3, s4, s5⟩ := hW; go_simp⟩) (HC.out _ D11.out) ?_
                    try (simp only [Act.put, List.getElem_toArray, List.getElem_cons_succ, List.getElem_cons_zero, List.setIfInBounds_toArray, List.set_cons_zero, List.set_cons_succ])
                    refine wpAnyH_take (i := 24) (v := .int .i64 j) rfl (by kernel_rfl) (by kernel_rfl) (by kernel_rfl) (fun _ _ _ h => h) (Or.inl ⟨by simp [Region.wanted, yielded], fun W hW => by obtain ⟨s0, s1, s2, s3, s4, s5⟩ := hW; go_simp⟩) (HC.out _ D11.out) ?_
                    try (simp only [Act.put, List.getElem_toArray, List.getElem_cons_succ, List.getElem_cons_zero, List.setIfInBounds_toArray, List.set_cons_zero, List.set_cons_succ])
                    refine wpAnyH_take (i := 25) (v := .pointer (some ⟨gp, ofp + j, none⟩)) rfl (by kernel_rfl) (by kernel_rfl) (by kernel_rfl) (fun _ _ _ h => h) (Or.inl ⟨by simp [Region.wanted, yielded], fun W hW => by obtain ⟨s0, s1, s2, s3, s4, s5⟩ := hW; go_simp⟩) (HC.out _ D11.out) ?_
                    try (simp only [Act.put, List.getElem_toArray, List.getElem_cons_succ, List.getElem_cons_zero, List.setIfInBounds_toArray, List.set_cons_zero, List.set_cons_succ])
                    refine wpAnyH_take (i := 26) (v := .string xj) rfl (by kernel_rfl) (by kernel_rfl) (by kernel_rfl) (fun _ _ _ h => h) (Or.inl ⟨by simp [Region.wanted, yielded], fun W hW => by obtain ⟨s0, s1, s2, s3, s4, s5⟩ := hW; go_simp⟩) (HC.out _ D11.out) ?_
                    try (simp only [Act.put, List.getElem_toArray, List.getElem_cons_succ, List.getElem_cons_zero, List.setIfInBounds_toArray, List.set_cons_zero, List.set_cons_succ])
                    refine wpAnyH_ready (rs := [18]) (by kernel_rfl) (by simp) ?_
                    refine AllReadyH.cons (o := _) rfl (fun KK hKK => ?_) AllReadyH.nil
                    go_simp
                    go_at_call 31
                    refine (HW1.out _ D11.out).mono ?_
                    rintro e wz12 ⟨rfl, kz12⟩
                    have D12 := Lib.hid (D11.out.then kz12); clear kz12
                    try go_wp2_with fail
                    refine hKK.out _ _ (HC.out _ D12.out) (fun _ => ?_)
                    clear hKK KK
                    try (simp only [Act.put, List.getElem_toArray, List.getElem_cons_succ, List.getElem_cons_zero, List.setIfInBounds_toArray, List.set_cons_zero, List.set_cons_succ])
                    refine wpAnyH_ready (rs := [27]) (by kernel_rfl) (by simp) ?_
                    refine AllReadyH.cons (o := _) rfl (fun KK hKK => ?_) AllReadyH.nil
                    go_simp
                    go_at_call 27
                    refine (HPW.out _ D12.out).mono ?_
                    rintro e wz13 ⟨rfl, kz13⟩
                    have D13 := Lib.hid (D12.out.then kz13); clear kz13
                    try go_wp2_with fail
                    refine hKK.out _ _ (HC.out _ D13.out) (fun _ => ?_)
                    clear hKK KK
                    try (simp only [Act.put, List.getElem_toArray, List.getElem_cons_succ, List.getElem_cons_zero, List.setIfInBounds_toArray, List.set_cons_zero, List.set_cons_succ])
                    refine wpAnyH_take (i := 28) (v := .bool false) rfl (by kernel_rfl) (by kernel_rfl) (by kernel_rfl) (fun _ _ _ h => h) (Or.inl ⟨by simp [Region.wanted, yielded], fun W hW => by obtain ⟨s0, s1, s2, s3, s4, s5⟩ := hW; go_simp⟩) (HC.out _ D13.out) ?_
                    try (simp only [Act.put, List.getElem_toArray, List.getElem_cons_succ, List.getElem_cons_zero, List.setIfInBounds_toArray, List.set_cons_zero, List.set_cons_succ])
                    refine wpAnyH_take (i := 29) (v := .bool false) rfl (by kernel_rfl) (by kernel_rfl) (by kernel_rfl) (fun _ _ _ h => h) (Or.inl ⟨by simp [Region.wanted, yielded], fun W hW => by obtain ⟨s0, s1, s2, s3, s4, s5⟩ := hW; go_simp⟩) (HC.out _ D13.out) ?_
                    try (simp only [Act.put, List.getElem_toArray, List.getElem_cons_succ, List.getElem_cons_zero, List.setIfInBounds_toArray, List.set_cons_zero, List.set_cons_succ])
                    refine wpAnyH_done (by kernel_rfl) ?_ _
                    have KF := Lib.hid (HKJ.out.then D13.out)
                    clear D8 D9 D12 D13 HC HME HW1 HW2 HPW
                    go_wp2_with fail
                    go_roundw
                    case rel => first | exact ⟨j + 1, by omega, by go_num, KF⟩ | ((repeat apply Exists.intro); exact ⟨⟨j + 1, by omega, by go_num, KF⟩, rfl⟩)
                    case measure => simp [intOf]; omega
                · obtain rfl : j = m := by omega
                  have hj0 : ¬ (j : Int) < (j : Int) := by omega
                  have K9 := Lib.hid (K7.out.then hkj.out)
                  go_wp2_with fail
                  go_roundw
                  case rel => first | exact ⟨i + 1, by omega, by go_num, K9⟩ | ((repeat apply Exists.intro); exact ⟨⟨i + 1, by omega, by go_num, K9⟩, rfl⟩)
                  case measure => simp [intOf]; omega
            · obtain rfl : i = m := by omega
              go_wp2_with fail
              go_ret
              exact ⟨rfl, K5.out.then hkr.out⟩
theorem nests_law (v : Value) (f : Nat → Value) (F : Nat → List Nat) (N : Nat) (w : World) (hl : LB w v f F N w.heap.size) (hb : ∀ a n c, v = .slice a n c → c ≤ 9223372036854775807) :
    Calls Tryd.prog 6 #[v] w fun e w' => e = .returned (.bool true) ∧ Kept (fun _ => False) w w' := by
  obtain ⟨a, c, rfl, hc⟩ := hl.form
  exact nests_at a N c f F w hl hc (hb _ _ _ rfl)
end Go.Proofs.YtndedphkgkmckaaDoor
