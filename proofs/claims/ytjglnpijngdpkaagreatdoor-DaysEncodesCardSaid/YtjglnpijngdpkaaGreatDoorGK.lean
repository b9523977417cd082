import Derived.Test.YtjglnpijngdpkaaGreatDoorCore
import Derived.Test.YtjglnpijngdpkaaGreatDoorRows
import Derived.Outline
import Derived.WalkLawsBesides
import Derived.WalkSpells
import Derived.BigQuiet
import Derived.IntWalk
import Derived.Laws.BitsAllLaws
import Derived.Deep.LoopGhost
import Derived.StillTailTactics
import Derived.Deep.QuietTactic
import Derived.Laws.IdiomCopy
import Derived.Laws.Rows
import Derived.Laws.Tables
/-
  The plain mathematics of Keccak's rounds, on lists of 25 words. No program is named here.
-/
namespace Go.Proofs.YtjglnpijngdpkaaGreatDoor

/-- Rotation of a word of 64 bits. -/
def rol (w n : Nat) : Nat := (w * 2 ^ n % 2 ^ 64) ||| (w / 2 ^ (64 - n))
def ln (s : List Nat) (i : Nat) : Nat := s.getD i 0
def trn : List Nat := [0, 1, 62, 28, 27, 36, 44, 6, 55, 20, 3, 10, 43, 25, 39, 41, 45, 15, 21, 8, 18, 2, 61, 56, 14]
def plc : List Nat := [0, 10, 20, 5, 15, 16, 1, 11, 21, 6, 7, 17, 2, 12, 22, 23, 8, 18, 3, 13, 14, 24, 9, 19, 4]
def rcs : List Nat := [0x0000000000000001, 0x0000000000008082, 0x800000000000808a, 0x8000000080008000,
  0x000000000000808b, 0x0000000080000001, 0x8000000080008081, 0x8000000000008009,
  0x000000000000008a, 0x0000000000000088, 0x0000000080008009, 0x000000008000000a,
  0x000000008000808b, 0x800000000000008b, 0x8000000000008089, 0x8000000000008003,
  0x8000000000008002, 0x8000000000000080, 0x000000000000800a, 0x800000008000000a,
  0x8000000080008081, 0x8000000000008080, 0x0000000080000001, 0x8000000080008008]
def colS (s : List Nat) (x : Nat) : Nat := ln s x ^^^ ln s (x + 5) ^^^ ln s (x + 10) ^^^ ln s (x + 15) ^^^ ln s (x + 20)
def colL (s : List Nat) : List Nat := (List.range 5).map (colS s)
def dS (s : List Nat) (x : Nat) : Nat := colS s ((x + 4) % 5) ^^^ rol (colS s ((x + 1) % 5)) 1
/-- Step 1 of a round; and how far it has come behind k columns. -/
def mixS (s : List Nat) : List Nat := (List.range 25).map fun i => ln s i ^^^ dS s (i % 5)
def mixK (s : List Nat) (k : Nat) : List Nat := (List.range 25).map fun i => if i % 5 < k then ln s i ^^^ dS s (i % 5) else ln s i
/-- Step 2: word i is moved to place plc i; and how far it has come behind k words. -/
def movK (s : List Nat) (k : Nat) : List Nat := (List.range k).foldl (fun b i => b.set (plc.getD i 0) (rol (ln s i) (trn.getD i 0))) (List.replicate 25 0)
def movS (s : List Nat) : List Nat := movK s 25

theorem rol_lt {w n : Nat} (hw : w < 2 ^ 64) (_hn : n ≤ 64) : rol w n < 2 ^ 64 := by
  refine Nat.or_lt_two_pow (Nat.mod_lt _ (by decide)) (Nat.lt_of_le_of_lt (Nat.div_le_self _ _) hw)
theorem ln_lt {s : List Nat} (h : ∀ x ∈ s, x < 2 ^ 64) (i : Nat) : ln s i < 2 ^ 64 := by
  unfold ln
  by_cases hi : i < s.length
  · rw [List.getD_eq_getElem?_getD, List.getElem?_eq_getElem hi]; exact h _ (List.getElem_mem hi)
  · rw [List.getD_eq_getElem?_getD, List.getElem?_eq_none (by omega)]; simp
theorem colS_lt {s : List Nat} (h : ∀ x ∈ s, x < 2 ^ 64) (x : Nat) : colS s x < 2 ^ 64 :=
  Nat.xor_lt_two_pow (Nat.xor_lt_two_pow (Nat.xor_lt_two_pow (Nat.xor_lt_two_pow (ln_lt h _) (ln_lt h _)) (ln_lt h _)) (ln_lt h _)) (ln_lt h _)
theorem dS_lt {s : List Nat} (h : ∀ x ∈ s, x < 2 ^ 64) (x : Nat) : dS s x < 2 ^ 64 := Nat.xor_lt_two_pow (colS_lt h _) (rol_lt (colS_lt h _) (by omega))
theorem mixS_lt {s : List Nat} (h : ∀ x ∈ s, x < 2 ^ 64) : ∀ x ∈ mixS s, x < 2 ^ 64 := by
  intro x hx
  simp only [mixS, List.mem_map] at hx
  obtain ⟨i, _, rfl⟩ := hx
  exact Nat.xor_lt_two_pow (ln_lt h _) (dS_lt h _)

theorem mixK_length (s : List Nat) (k : Nat) : (mixK s k).length = 25 := by simp [mixK]
theorem mixS_length (s : List Nat) : (mixS s).length = 25 := by simp [mixS]
theorem mixK_zero {s : List Nat} (h : s.length = 25) : mixK s 0 = s := by
  apply List.ext_getElem
  · simp [mixK, h]
  · intro i h1 h2
    simp [mixK, ln, List.getD, h2]
theorem mixK_five (s : List Nat) : mixK s 5 = mixS s := by
  unfold mixK mixS
  apply List.map_congr_left
  intro i _
  rw [if_pos (Nat.mod_lt _ (by omega))]
theorem mixK_getD (s : List Nat) (k i : Nat) (hi : i < 25) : (mixK s k).getD i 0 = if i % 5 < k then ln s i ^^^ dS s (i % 5) else ln s i := by
  simp [mixK, List.getD, hi]
theorem mixK_succ (s : List Nat) (k : Nat) (hk : k < 5) :
    mixK s (k + 1) = (((((mixK s k).set k (ln s k ^^^ dS s k)).set (k + 5) (ln s (k + 5) ^^^ dS s k)).set (k + 10) (ln s (k + 10) ^^^ dS s k)).set (k + 15) (ln s (k + 15) ^^^ dS s k)).set (k + 20) (ln s (k + 20) ^^^ dS s k) := by
  match k, hk with
  | 0, _ => rfl
  | 1, _ => rfl
  | 2, _ => rfl
  | 3, _ => rfl
  | 4, _ => rfl

theorem movK_length (s : List Nat) (k : Nat) : (movK s k).length = 25 := by
  unfold movK
  induction k with
  | zero => simp
  | succ k ih => rw [List.range_succ, List.foldl_append, List.foldl_cons, List.foldl_nil, List.length_set]; exact ih
theorem movK_succ (s : List Nat) (k : Nat) : movK s (k + 1) = (movK s k).set (plc.getD k 0) (rol (ln s k) (trn.getD k 0)) := by
  unfold movK
  rw [List.range_succ, List.foldl_append]; rfl
theorem plc_lt (k : Nat) : plc.getD k 0 < 25 := by
  by_cases hk : k < 25
  · have : ∀ k, k < 25 → plc.getD k 0 < 25 := by decide
    exact this k hk
  · rw [List.getD_eq_getElem?_getD, List.getElem?_eq_none (by simp [plc]; omega)]; simp
theorem trn_lt (k : Nat) : trn.getD k 0 < 64 := by
  by_cases hk : k < 25
  · have : ∀ k, k < 25 → trn.getD k 0 < 64 := by decide
    exact this k hk
  · rw [List.getD_eq_getElem?_getD, List.getElem?_eq_none (by simp [trn]; omega)]; simp
theorem set_lt {b : List Nat} (hb : ∀ x ∈ b, x < 2 ^ 64) (i y : Nat) (hy : y < 2 ^ 64) : ∀ x ∈ b.set i y, x < 2 ^ 64 := by
  intro x hx
  rcases List.mem_or_eq_of_mem_set hx with h | h
  · exact hb x h
  · rw [h]; exact hy
theorem movK_lt {s : List Nat} (h : ∀ x ∈ s, x < 2 ^ 64) (k : Nat) : ∀ x ∈ movK s k, x < 2 ^ 64 := by
  induction k with
  | zero => intro x hx; simp [movK] at hx; omega
  | succ k ih => rw [movK_succ]; exact set_lt ih _ _ (rol_lt (ln_lt h _) (by have := trn_lt k; omega))

/-- A row of zeros that is filled from its head on. -/
theorem fill_set (xs : List Nat) (n k : Nat) (hn : xs.length = n) (hk : k < n) : (xs.take k ++ List.replicate (n - k) 0).set k (xs.getD k 0) = xs.take (k + 1) ++ List.replicate (n - (k + 1)) 0 := by
  obtain ⟨m, hm⟩ : ∃ m, n - k = m + 1 := ⟨n - k - 1, by omega⟩
  have hl : (xs.take k).length = k := by simp; omega
  rw [List.set_append_right _ _ (by omega), hl, Nat.sub_self, hm, List.replicate_succ, List.set_cons_zero, show n - (k + 1) = m by omega,
    List.take_succ_eq_append_getElem (by omega), List.append_assoc]
  simp [List.getD, show k < xs.length by omega]
end Go.Proofs.YtjglnpijngdpkaaGreatDoor
/-
  arbac/keccak: words in memory; mixRow.
-/
namespace Go.Proofs.YtjglnpijngdpkaaGreatDoor
open Go.RowKit

/-- But for the cells lo .. hi-1 of block g, w' holds what w held, and maybe more blocks. -/
structure KR (g lo hi : Nat) (w w' : World) : Prop where
  kept : Kept (fun k => k = g) w w'
  out : ∀ i, ¬ (lo ≤ i ∧ i < hi) → w'.cell? ⟨g, i, none⟩ = w.cell? ⟨g, i, none⟩
  frozen : ∀ i, w'.frozen? ⟨g, i, none⟩ = w.frozen? ⟨g, i, none⟩

theorem KR.refl (g lo hi : Nat) (w : World) : KR g lo hi w w := ⟨Kept.refl _ _, fun _ _ => rfl, fun _ => rfl⟩
theorem KR.trans {g lo hi l1 h1 l2 h2 : Nat} {a b c : World} (h : KR g l1 h1 a b) (k : KR g l2 h2 b c) (hl1 : lo ≤ l1) (hh1 : h1 ≤ hi) (hl2 : lo ≤ l2) (hh2 : h2 ≤ hi) : KR g lo hi a c :=
  ⟨h.kept.trans k.kept (fun _ _ h => h) (fun _ _ h => h), fun i hi => (k.out i (by omega)).trans (h.out i (by omega)), fun i => (k.frozen i).trans (h.frozen i)⟩
theorem KR.drew {g lo hi : Nat} {a b : World} (h : KR g lo hi a b) : KR g lo hi a b.drew := ⟨h.kept.drew, h.out, h.frozen⟩
theorem KR.drewN {g lo hi : Nat} {a b : World} (h : KR g lo hi a b) (n : Nat) : KR g lo hi a (b.drewN n) := ⟨h.kept.drewN n, h.out, h.frozen⟩
theorem KR.ofKept {g lo hi : Nat} {a b : World} (h : Kept (fun _ => False) a b) (hg : g < a.heap.size) : KR g lo hi a b :=
  ⟨h.mono (fun _ _ h => h.elim), fun i _ => h.cell (p := ⟨g, i, none⟩) hg (fun h => h), fun i => h.frozen (p := ⟨g, i, none⟩) hg (fun h => h)⟩
theorem KR.setCell (g i lo hi : Nat) (w : World) (u : Value) (h : lo ≤ i ∧ i < hi) : KR g lo hi w (w.setCell ⟨g, i, none⟩ u) := by
  refine ⟨Kept.setCell _ _ _ _ rfl, fun j hj => ?_, fun j => ?_⟩
  · exact World.cell?_setCell_other _ _ _ _ (fun e => by injection e; omega)
  · exact World.frozen?_setCell _ _ _ _

/-- Words that lie in memory, and may be written. -/
structure Lanes (w : World) (g off : Nat) (s : List Nat) : Prop where
  cell : ∀ i, i < s.length → w.cell? ⟨g, off + i, none⟩ = some (.int .u64 (s.getD i 0 : Nat))
  free : ∀ i, i < s.length → w.frozen? ⟨g, off + i, none⟩ = false

theorem xor64 (a b y : Nat) (ha : a < 2 ^ 64) (hb : b < 2 ^ 64) (h : y = a ^^^ b) : bits .xor .u64 (a : Int) (b : Int) = (y : Int) := by
  rw [u64_xor_nat _ _ (by omega) (by omega), h]
theorem and64 (a b y : Nat) (ha : a < 2 ^ 64) (hb : b < 2 ^ 64) (h : y = a &&& b) : bits .and .u64 (a : Int) (b : Int) = (y : Int) := by
  rw [u64_and_nat _ _ (by omega) (by omega), h]
def all1 : Nat := 0xFFFFFFFFFFFFFFFF
theorem neg64 (c y : Nat) (hc : c < 2 ^ 64) (h : y = all1 ^^^ c) : bits .xor .u64 IntKind.u64.max (c : Int) = (y : Int) := by
  rw [h]; exact u64_xor_nat 18446744073709551615 c (by omega) (by omega)
theorem all1_lt : all1 < 2 ^ 64 := by decide
/-- One word of a row behind step 3. -/
def chi1 (a b c : Nat) : Nat := a ^^^ ((all1 ^^^ b) &&& c)
theorem chi1_lt {a b c : Nat} (ha : a < 2 ^ 64) (hc : c < 2 ^ 64) : chi1 a b c < 2 ^ 64 := Nat.xor_lt_two_pow ha (Nat.and_lt_two_pow _ hc)
theorem chi_walk (a b c : Nat) (ha : a < 2 ^ 64) (hb : b < 2 ^ 64) (hc : c < 2 ^ 64) :
    ∃ n m : Nat, bits .xor .u64 IntKind.u64.max (b : Int) = (n : Int) ∧ bits .and .u64 (n : Int) (c : Int) = (m : Int) ∧ bits .xor .u64 (a : Int) (m : Int) = ((chi1 a b c : Nat) : Int) :=
  ⟨_, _, neg64 b _ hb rfl, and64 _ c _ (Nat.xor_lt_two_pow all1_lt hb) hc rfl, xor64 a _ _ ha (Nat.and_lt_two_pow _ hc) rfl⟩

theorem Lanes.set {w : World} {g off : Nat} {s : List Nat} (h : Lanes w g off s) (i y : Nat) (hi : i < s.length) : Lanes (w.setCell ⟨g, off + i, none⟩ (.int .u64 (y : Int))) g off (s.set i y) := by
  refine ⟨fun j hj => ?_, fun j hj => ?_⟩
  · rw [List.length_set] at hj
    by_cases e : i = j
    · subst e
      rw [World.cell?_setCell_same _ _ _ (h.cell i hi)]
      simp [List.getD, hi]
    · rw [World.cell?_setCell_other _ _ _ _ (fun e2 => by injection e2; omega), h.cell j hj]
      simp [List.getD, e]
  · rw [World.frozen?_setCell]; rw [List.length_set] at hj; exact h.free j hj
theorem Lanes.kr {w w' : World} {g off g' lo hi : Nat} {s : List Nat} (h : Lanes w g off s) (hk : KR g' lo hi w w') (hlt : g < w.heap.size) (hd : g ≠ g' ∨ hi ≤ off ∨ off + s.length ≤ lo) : Lanes w' g off s := by
  by_cases e : g = g'
  · subst e
    refine ⟨fun j hj => (hk.out _ (by omega)).trans (h.cell j hj), fun j hj => (hk.frozen _).trans (h.free j hj)⟩
  · exact ⟨fun j hj => (hk.kept.cell (p := ⟨g, off + j, none⟩) hlt e).trans (h.cell j hj), fun j hj => (hk.kept.frozen (p := ⟨g, off + j, none⟩) hlt e).trans (h.free j hj)⟩
theorem Lanes.kept {S : Nat → Prop} {w w' : World} {g off : Nat} {s : List Nat} (h : Lanes w g off s) (hk : Kept S w w') (hlt : g < w.heap.size) (hn : ¬ S g) : Lanes w' g off s :=
  ⟨fun j hj => (hk.cell (p := ⟨g, off + j, none⟩) hlt hn).trans (h.cell j hj), fun j hj => (hk.frozen (p := ⟨g, off + j, none⟩) hlt hn).trans (h.free j hj)⟩
theorem Lanes.drew {w : World} {g off : Nat} {s : List Nat} (h : Lanes w g off s) : Lanes w.drew g off s := ⟨h.cell, h.free⟩

/-- What mixRow has before it. -/
structure MixAt (w W : World) (ga oa gb ob : Nat) (zs bs : List Nat) : Prop where
  a : Lanes W ga oa zs
  b : Lanes W gb ob bs
  la : zs.length = 5
  ne : ga ≠ gb
  lt : gb < W.heap.size
  k : KR ga oa (oa + 5) w W
theorem MixAt.drew {w W : World} {ga oa gb ob : Nat} {zs bs : List Nat} (h : MixAt w W ga oa gb ob zs bs) : MixAt w W.drew ga oa gb ob zs bs := ⟨h.a.drew, h.b.drew, h.la, h.ne, h.lt, h.k.drew⟩
theorem MixAt.set {w W : World} {ga oa gb ob : Nat} {zs bs : List Nat} (h : MixAt w W ga oa gb ob zs bs) (i y : Nat) (hi : i < 5) : MixAt w (W.setCell ⟨ga, oa + i, none⟩ (.int .u64 (y : Int))) ga oa gb ob (zs.set i y) bs := by
  have hk := KR.setCell ga (oa + i) oa (oa + 5) W (.int .u64 (y : Int)) (by omega)
  exact ⟨h.a.set i y (by rw [h.la]; exact hi), h.b.kr hk h.lt (Or.inl (Ne.symm h.ne)), by rw [List.length_set]; exact h.la, h.ne, Nat.lt_of_lt_of_le h.lt hk.kept.size, h.k.trans hk (Nat.le_refl _) (Nat.le_refl _) (Nat.le_refl _) (Nat.le_refl _)⟩

set_option maxRecDepth 100000 in
set_option maxHeartbeats 800000 in
theorem mixRow_any (w : World) (ga oa ca gb ob cb : Nat) (xs : List Nat) (b0 b1 b2 b3 b4 : Nat) (hx : xs.length = 5) (ha : Lanes w ga oa xs) (hb : Lanes w gb ob [b0, b1, b2, b3, b4]) (hg : ga ≠ gb) (hlt : gb < w.heap.size)
    (l0 : b0 < 2 ^ 64) (l1 : b1 < 2 ^ 64) (l2 : b2 < 2 ^ 64) (l3 : b3 < 2 ^ 64) (l4 : b4 < 2 ^ 64) :
    Calls Tryz.prog 130 #[.slice (some ⟨ga, oa, none⟩) 5 ca, .slice (some ⟨gb, ob, none⟩) 5 cb] w fun e w' => e = .returned (.tuple #[]) ∧
      Lanes w' ga oa [chi1 b0 b1 b2, chi1 b1 b2 b3, chi1 b2 b3 b4, chi1 b3 b4 b0, chi1 b4 b0 b1] ∧ KR ga oa (oa + 5) w w' := by
  obtain ⟨n0, m0, e0, f0, r0⟩ := chi_walk b0 b1 b2 l0 l1 l2
  obtain ⟨n1, m1, e1, f1, r1⟩ := chi_walk b1 b2 b3 l1 l2 l3
  obtain ⟨n2, m2, e2, f2, r2⟩ := chi_walk b2 b3 b4 l2 l3 l4
  obtain ⟨n3, m3, e3, f3, r3⟩ := chi_walk b3 b4 b0 l3 l4 l0
  obtain ⟨n4, m4, e4, f4, r4⟩ := chi_walk b4 b0 b1 l4 l0 l1
  generalize chi1 b0 b1 b2 = y0 at *
  generalize chi1 b1 b2 b3 = y1 at *
  generalize chi1 b2 b3 b4 = y2 at *
  generalize chi1 b3 b4 b0 = y3 at *
  generalize chi1 b4 b0 b1 = y4 at *
  obtain ⟨x0, x1, x2, x3, x4, rfl⟩ : ∃ x0 x1 x2 x3 x4, xs = [x0, x1, x2, x3, x4] := by
    match xs, hx with
    | [x0, x1, x2, x3, x4], _ => exact ⟨_, _, _, _, _, rfl⟩
  have M0 : MixAt w w ga oa gb ob [x0, x1, x2, x3, x4] [b0, b1, b2, b3, b4] := ⟨ha, hb, hx, hg, hlt, KR.refl _ _ _ _⟩
  clear ha hb l0 l1 l2 l3 l4 hx hlt
  go_enter Tryz.func130, Tryz.ntmps130
  go_wp2_with fail
  have N0 := Lib.hid M0.drew
  have c0 := M0.b.cell 0 (by simp)
  have c1 := M0.b.cell 1 (by simp)
  have c2 := M0.b.cell 2 (by simp)
  have d := M0.a.cell 0 (by simp)
  have f := M0.a.free 0 (by simp)
  simp at c0 c1 c2 d f
  clear M0
  go_still_tail 14, (by kernel_rfl)
  change wpList _ _ _ _ _ w.drew
  replace c0 : w.drew.cell? _ = _ := c0
  replace c1 : w.drew.cell? _ = _ := c1
  replace c2 : w.drew.cell? _ = _ := c2
  replace d : w.drew.cell? _ = _ := d
  replace f : w.drew.frozen? _ = _ := f
  generalize w.drew = v0 at *
  go_wp2_with fail
  have M1 : MixAt w (v0.setCell ⟨ga, oa, none⟩ (.int .u64 (y0 : Int))) ga oa gb ob [y0, x1, x2, x3, x4] [b0, b1, b2, b3, b4] := N0.out.set 0 y0 (by omega)
  clear N0 c0 c1 c2 d f
  generalize v0.setCell ⟨ga, oa, none⟩ (.int .u64 (y0 : Int)) = w1 at *
  have N1 := Lib.hid M1.drew
  have c1 := M1.b.cell 1 (by simp)
  have c2 := M1.b.cell 2 (by simp)
  have c3 := M1.b.cell 3 (by simp)
  have d := M1.a.cell 1 (by simp)
  have f := M1.a.free 1 (by simp)
  simp at c1 c2 c3 d f
  clear M1
  go_still_tail 14, (by kernel_rfl)
  change wpList _ _ _ _ _ w1.drew
  replace c1 : w1.drew.cell? _ = _ := c1
  replace c2 : w1.drew.cell? _ = _ := c2
  replace c3 : w1.drew.cell? _ = _ := c3
  replace d : w1.drew.cell? _ = _ := d
  replace f : w1.drew.frozen? _ = _ := f
  generalize w1.drew = v1 at *
  go_wp2_with fail
  have M2 : MixAt w (v1.setCell ⟨ga, oa + 1, none⟩ (.int .u64 (y1 : Int))) ga oa gb ob [y0, y1, x2, x3, x4] [b0, b1, b2, b3, b4] := N1.out.set 1 y1 (by omega)
  clear N1 c1 c2 c3 d f
  generalize v1.setCell ⟨ga, oa + 1, none⟩ (.int .u64 (y1 : Int)) = w2 at *
  have N2 := Lib.hid M2.drew
  have c2 := M2.b.cell 2 (by simp)
  have c3 := M2.b.cell 3 (by simp)
  have c4 := M2.b.cell 4 (by simp)
  have d := M2.a.cell 2 (by simp)
  have f := M2.a.free 2 (by simp)
  simp at c2 c3 c4 d f
  clear M2
  go_still_tail 14, (by kernel_rfl)
  change wpList _ _ _ _ _ w2.drew
  replace c2 : w2.drew.cell? _ = _ := c2
  replace c3 : w2.drew.cell? _ = _ := c3
  replace c4 : w2.drew.cell? _ = _ := c4
  replace d : w2.drew.cell? _ = _ := d
  replace f : w2.drew.frozen? _ = _ := f
  generalize w2.drew = v2 at *
  go_wp2_with fail
  have M3 : MixAt w (v2.setCell ⟨ga, oa + 2, none⟩ (.int .u64 (y2 : Int))) ga oa gb ob [y0, y1, y2, x3, x4] [b0, b1, b2, b3, b4] := N2.out.set 2 y2 (by omega)
  clear N2 c2 c3 c4 d f
  generalize v2.setCell ⟨ga, oa + 2, none⟩ (.int .u64 (y2 : Int)) = w3 at *
  have N3 := Lib.hid M3.drew
  have c0 := M3.b.cell 0 (by simp)
  have c3 := M3.b.cell 3 (by simp)
  have c4 := M3.b.cell 4 (by simp)
  have d := M3.a.cell 3 (by simp)
  have f := M3.a.free 3 (by simp)
  simp at c0 c3 c4 d f
  clear M3
  go_still_tail 14, (by kernel_rfl)
  change wpList _ _ _ _ _ w3.drew
  replace c0 : w3.drew.cell? _ = _ := c0
  replace c3 : w3.drew.cell? _ = _ := c3
  replace c4 : w3.drew.cell? _ = _ := c4
  replace d : w3.drew.cell? _ = _ := d
  replace f : w3.drew.frozen? _ = _ := f
  generalize w3.drew = v3 at *
  go_wp2_with fail
  have M4 : MixAt w (v3.setCell ⟨ga, oa + 3, none⟩ (.int .u64 (y3 : Int))) ga oa gb ob [y0, y1, y2, y3, x4] [b0, b1, b2, b3, b4] := N3.out.set 3 y3 (by omega)
  clear N3 c0 c3 c4 d f
  generalize v3.setCell ⟨ga, oa + 3, none⟩ (.int .u64 (y3 : Int)) = w4 at *
  have N4 := Lib.hid M4.drew
  have c0 := M4.b.cell 0 (by simp)
  have c1 := M4.b.cell 1 (by simp)
  have c4 := M4.b.cell 4 (by simp)
  have d := M4.a.cell 4 (by simp)
  have f := M4.a.free 4 (by simp)
  simp at c0 c1 c4 d f
  clear M4
  go_still_tail 14, (by kernel_rfl)
  change wpList _ _ _ _ _ w4.drew
  replace c0 : w4.drew.cell? _ = _ := c0
  replace c1 : w4.drew.cell? _ = _ := c1
  replace c4 : w4.drew.cell? _ = _ := c4
  replace d : w4.drew.cell? _ = _ := d
  replace f : w4.drew.frozen? _ = _ := f
  generalize w4.drew = v4 at *
  go_wp2_with fail
  have M5 : MixAt w (v4.setCell ⟨ga, oa + 4, none⟩ (.int .u64 (y4 : Int))) ga oa gb ob [y0, y1, y2, y3, y4] [b0, b1, b2, b3, b4] := N4.out.set 4 y4 (by omega)
  clear N4 c0 c1 c4 d f
  generalize v4.setCell ⟨ga, oa + 4, none⟩ (.int .u64 (y4 : Int)) = w5 at *
  have M6 := Lib.hid M5
  clear M5
  go_end0
  exact ⟨rfl, M6.out.a, M6.out.k⟩
end Go.Proofs.YtjglnpijngdpkaaGreatDoor
/-
  arbac/keccak: RotateLeft64, mixColumns, moved, permute.
-/
namespace Go.Proofs.YtjglnpijngdpkaaGreatDoor
open Go.RowKit

theorem quiet_leftK {P : Program} {f : FuncId} {args : Array Value} {w : World} {n : Nat} {v : Value}
    (h : Calls P f args (w.drewN n) fun e w' => e = .returned v ∧ w.drewN n = w') : Calls P f args (w.drewN n) fun e w'' => e = .returned v ∧ ∃ m, w'' = w.drewN m :=
  h.mono fun _ _ ⟨he, hm⟩ => ⟨he, n, hm.symm⟩

theorem ret_intK {k : IntKind} {a b : Int} (h : a = b) : Ending.returned (.int k a) = .returned (.int k b) := by rw [h]

theorem rol_walk (x k : Nat) (hx : x < 2 ^ 64) : bits .or .u64 (IntKind.u64.wrap ((x : Int) * 2 ^ k)) ((x : Int) / 2 ^ (64 - k)) = ((rol x k : Nat) : Int) := by
  have h1 : IntKind.u64.wrap ((x : Int) * 2 ^ k) = ((x * 2 ^ k % 2 ^ 64 : Nat) : Int) := by
    rw [IntKind.wrap_u64, Int.natCast_emod, Int.natCast_mul, Int.natCast_pow]; rfl
  have h2 : (x : Int) / 2 ^ (64 - k) = ((x / 2 ^ (64 - k) : Nat) : Int) := by
    rw [Int.natCast_ediv, Int.natCast_pow]; rfl
  rw [h1, h2, u64_or_nat _ _ (Nat.mod_lt _ (by decide)) (Nat.lt_of_le_of_lt (Nat.div_le_self _ _) hx)]
  rfl

set_option maxRecDepth 100000 in
set_option maxHeartbeats 400000 in
theorem rot_any (x k : Nat) (w : World) (hx : x < 2 ^ 64) (hk : k < 64) :
    Calls Tryz.prog 140 #[.int .u64 x, .int .i64 k] w fun e w' => e = .returned (.int .u64 (rol x k : Nat)) ∧ w = w' := by
  have hw : IntKind.u64.wrap (k : Int) = (k : Int) := IntWalk.u64_in _ (by omega)
  have ha : bits .and .u64 (k : Int) 63 = (k : Int) := by
    rw [show (63 : Int) = ((63 : Nat) : Int) from rfl, u64_and_nat _ _ (by omega) (by omega)]
    congr 1
    exact (Nat.and_two_pow_sub_one_eq_mod k 6).trans (Nat.mod_eq_of_lt hk)
  have hk1 : (k : Int) ≤ 64 := by omega
  have hk2 : (k : Int) < 64 := by omega
  have hs : IntKind.u64.wrap (64 - (k : Int)) = 64 - (k : Int) := IntWalk.u64_in _ (by omega)
  have HR := Lib.hid (rol_walk x k hx)
  go_enter Tryz.func140, Tryz.ntmps140
  go_wp2_with fail
  go_ret
  exact ⟨ret_intK HR.out, rfl⟩

theorem Lanes.at {w : World} {g off : Nat} {s : List Nat} (h : Lanes w g off s) (i : Nat) (hi : i < s.length) : w.cell? ⟨g, off + i, none⟩ = some (.int .u64 (ln s i : Nat)) := h.cell i hi

theorem lanes_new (w : World) (cs : Array Value) (T : TypeId) (s : List Nat) (hcs : cs.toList = s.map fun n : Nat => Value.int .u64 (n : Int)) : Lanes (w.alloc (.cells cs T)) w.heap.size 0 s := by
  refine ⟨fun i hi => ?_, fun i _ => World.frozen?_alloc_new _ _ _ _⟩
  rw [Nat.zero_add, cell_of_row _ w.heap.size i cs T (0, 0) (heap_alloc_new w _), ← Array.getElem?_toList, hcs]
  simp [List.getD, hi]

theorem colL_length (s : List Nat) : (colL s).length = 5 := by simp [colL]
theorem colL_ln (s : List Nat) (k : Nat) (hk : k < 5) : (colL s).getD k 0 = colS s k := by simp [colL, List.getD, hk]

theorem getD_set_ne (l : List Nat) (i j a : Nat) (h : i ≠ j) : (l.set i a).getD j 0 = l.getD j 0 := by simp [List.getD, h]

set_option maxRecDepth 100000 in
set_option maxHeartbeats 1600000 in
theorem mixColumns_any (w : World) (g off : Nat) (s : List Nat) (h25 : s.length = 25) (hb : ∀ x ∈ s, x < 2 ^ 64) (h : Lanes w g off s) (hg : g < w.heap.size) :
    Calls Tryz.prog 128 #[.pointer (some ⟨g, off, none⟩)] w fun e w' => e = .returned (.tuple #[]) ∧ Lanes w' g off (mixS s) ∧ KR g off (off + 25) w w' := by
  have HH := Lib.hid h; have HB := Lib.hid hb; have H25 := Lib.hid h25
  clear h hb h25
  go_enter Tryz.func128, Tryz.ntmps128
  go_wp2_with fail
  go_loopw [3, 6] (fun _ i wr => ∃ k : Nat, k ≤ 5 ∧ i = .int .i64 k ∧ Lanes wr w.heap.size 0 ((colL s).take k ++ List.replicate (5 - k) 0) ∧ KR w.heap.size 0 5 (w.alloc (.cells #[.int .u64 0, .int .u64 0, .int .u64 0, .int .u64 0, .int .u64 0] 190)) wr) (fun _ i _ => 5 - (intOf i).toNat)
  case atStart =>
    refine ⟨0, by omega, rfl, lanes_new _ _ _ _ rfl, KR.refl _ _ _ _⟩
  case round =>
    obtain ⟨k, hk, rfl, hc, hkr⟩ := hrel
    have hgw : g ≠ w.heap.size := by omega
    have hs1 : Lanes (w.alloc (.cells #[.int .u64 0, .int .u64 0, .int .u64 0, .int .u64 0, .int .u64 0] 190)) g off s := HH.out.kept (Kept.alloc (fun _ => False) _ _) hg (fun h => h)
    have hs2 := hs1.kr hkr (by simp; omega) (Or.inl hgw)
    have hl5 : ((colL s).take k ++ List.replicate (5 - k) 0).length = 5 := by simp [colL_length]; omega
    by_cases hlt : k < 5
    · have e0 := hs2.at k (by rw [H25.out]; omega)
      have e1 := hs2.at (k + 5) (by rw [H25.out]; omega)
      have e2 := hs2.at (k + 10) (by rw [H25.out]; omega)
      have e3 := hs2.at (k + 15) (by rw [H25.out]; omega)
      have e4 := hs2.at (k + 20) (by rw [H25.out]; omega)
      have d := hc.cell k (by rw [hl5]; exact hlt)
      have f := hc.free k (by rw [hl5]; exact hlt)
      rw [Nat.zero_add] at d f
      generalize ((colL s).take k ++ List.replicate (5 - k) 0).getD k 0 = old at d
      obtain ⟨t1, ht1⟩ : ∃ t, t = ln s k ^^^ ln s (k + 5) := ⟨_, rfl⟩
      obtain ⟨t2, ht2⟩ : ∃ t, t = t1 ^^^ ln s (k + 10) := ⟨_, rfl⟩
      obtain ⟨t3, ht3⟩ : ∃ t, t = t2 ^^^ ln s (k + 15) := ⟨_, rfl⟩
      obtain ⟨t4, ht4⟩ : ∃ t, t = t3 ^^^ ln s (k + 20) := ⟨_, rfl⟩
      have hcol : colS s k = t4 := by rw [ht4, ht3, ht2, ht1]; rfl
      have b0 := ln_lt HB.out k; have b1 := ln_lt HB.out (k + 5); have b2 := ln_lt HB.out (k + 10); have b3 := ln_lt HB.out (k + 15); have b4 := ln_lt HB.out (k + 20)
      have l1 : t1 < 2 ^ 64 := by rw [ht1]; exact Nat.xor_lt_two_pow b0 b1
      have l2 : t2 < 2 ^ 64 := by rw [ht2]; exact Nat.xor_lt_two_pow l1 b2
      have l3 : t3 < 2 ^ 64 := by rw [ht3]; exact Nat.xor_lt_two_pow l2 b3
      have x1 := xor64 _ _ t1 b0 b1 ht1
      have x2 := xor64 _ _ t2 l1 b2 ht2
      have x3 := xor64 _ _ t3 l2 b3 ht3
      have x4 := xor64 _ _ t4 l3 b4 ht4
      have hset := hc.drew.set k t4 (by rw [hl5]; exact hlt)
      rw [← hcol, ← colL_ln s k hlt, fill_set (colL s) 5 k (colL_length s) hlt, Nat.zero_add, colL_ln s k hlt, hcol] at hset
      have hkr' : KR w.heap.size 0 5 _ (wr.drew.setCell ⟨w.heap.size, k, none⟩ (.int .u64 (t4 : Int))) := hkr.drew.trans (KR.setCell w.heap.size k 0 5 wr.drew (.int .u64 (t4 : Int)) (by omega)) (Nat.le_refl _) (Nat.le_refl _) (Nat.le_refl _) (Nat.le_refl _)
      have HSET := Lib.hid hset; have HKR := Lib.hid hkr'
      clear ht1 ht2 ht3 ht4 hcol hset hkr' hc hkr hs1 hs2 hl5 l1 l2 l3 b0 b1 b2 b3 b4
      generalize ln s k = v0 at *
      generalize ln s (k + 5) = v1 at *
      generalize ln s (k + 10) = v2 at *
      generalize ln s (k + 15) = v3 at *
      generalize ln s (k + 20) = v4 at *
      obtain ⟨k1, h1⟩ : ∃ j, j = k + 5 := ⟨_, rfl⟩
      obtain ⟨k2, h2⟩ : ∃ j, j = k + 10 := ⟨_, rfl⟩
      obtain ⟨k3, h3⟩ : ∃ j, j = k + 15 := ⟨_, rfl⟩
      obtain ⟨k4, h4⟩ : ∃ j, j = k + 20 := ⟨_, rfl⟩
      rw [← h1] at e1
      rw [← h2] at e2
      rw [← h3] at e3
      rw [← h4] at e4
      have n1 : IntKind.i64.wrap ((k : Int) + 5) = (k1 : Int) := by rw [IntWalk.i64_in _ (by omega)]; omega
      have n2 : IntKind.i64.wrap ((k : Int) + 10) = (k2 : Int) := by rw [IntWalk.i64_in _ (by omega)]; omega
      have n3 : IntKind.i64.wrap ((k : Int) + 15) = (k3 : Int) := by rw [IntWalk.i64_in _ (by omega)]; omega
      have n4 : IntKind.i64.wrap ((k : Int) + 20) = (k4 : Int) := by rw [IntWalk.i64_in _ (by omega)]; omega
      have m0 : (k : Int) < 5 := by omega
      have p0 : (0 : Int) ≤ k := by omega
      have q0 : (k : Int) < 25 := by omega
      have q1 : (k1 : Int) < 25 := by omega
      have q2 : (k2 : Int) < 25 := by omega
      have q3 : (k3 : Int) < 25 := by omega
      have q4 : (k4 : Int) < 25 := by omega
      have p1 : (0 : Int) ≤ k1 := by omega
      have p2 : (0 : Int) ≤ k2 := by omega
      have p3 : (0 : Int) ≤ k3 := by omega
      have p4 : (0 : Int) ≤ k4 := by omega
      clear h1 h2 h3 h4
      go_wp2_with fail
      go_still_tail 35, (by kernel_rfl)
      change wpList _ _ _ _ _ wr.drew
      replace d : wr.drew.cell? _ = _ := d
      replace f : wr.drew.frozen? _ = _ := f
      clear e0 e1 e2 e3 e4 x1 x2 x3 x4
      generalize wr.drew = v at *
      go_wp2_with fail
      go_roundw
      case rel => exact ⟨k + 1, by omega, by go_num, HSET.out, HKR.out⟩
      case measure => simp [intOf]; omega
    · obtain rfl : k = 5 := by omega
      rw [List.take_of_length_le (by rw [colL_length]; omega), Nat.sub_self, List.replicate_zero, List.append_nil] at hc
      have hk0 : Kept (fun _ => False) w wr := (Kept.alloc (fun _ => False) w _).trans hkr.kept (fun _ _ h => h) (fun i hi e => by omega)
      have hkw : KR g off (off + 25) w wr := KR.ofKept hk0 hg
      have hcw : w.heap.size < wr.heap.size := Nat.lt_of_lt_of_le (by simp) hkr.kept.size
      have hm0 : Lanes wr g off (mixK s 0) := by rw [mixK_zero H25.out]; exact hs2
      have hgs := hk0.size
      clear hkr hs1 hs2 hl5 hk0
      have HM0 := Lib.hid hm0; have HC := Lib.hid hc; have HKW := Lib.hid hkw
      clear hm0 hc hkw
      generalize w.heap.size = gc at *
      go_wp2_with fail
      go_loopw [4, 5, 45] (fun _ _ i W => ∃ k : Nat, k ≤ 5 ∧ i = .int .i64 k ∧ Lanes W g off (mixK s k) ∧ Lanes W gc 0 (colL s) ∧ KR g off (off + 25) w W ∧ gc < W.heap.size ∧ g < W.heap.size) (fun _ _ i _ => 5 - (intOf i).toNat)
      case atStart => exact ⟨0, by omega, rfl, HM0.out, HC.out, HKW.out, hcw, by omega⟩
      case round =>
        clear HM0 HC HKW hcw hgs
        obtain ⟨k, hk, rfl, hm, hc, hkw, hgc, hgg⟩ := hrel
        by_cases hlt : k < 5
        · obtain ⟨x4, hx4⟩ : ∃ x, x = (k + 4) % 5 := ⟨_, rfl⟩
          obtain ⟨x1, hx1⟩ : ∃ x, x = (k + 1) % 5 := ⟨_, rfl⟩
          obtain ⟨a4, ha4⟩ : ∃ x, x = k + 4 := ⟨_, rfl⟩
          obtain ⟨a1, ha1⟩ : ∃ x, x = k + 1 := ⟨_, rfl⟩
          have e4 := hc.cell x4 (by rw [colL_length]; omega)
          have e1 := hc.cell x1 (by rw [colL_length]; omega)
          rw [Nat.zero_add, colL_ln s _ (by omega)] at e4 e1
          have n4 : IntKind.i64.wrap ((k : Int) + 4) = (a4 : Int) := by rw [IntWalk.i64_in _ (by omega)]; omega
          have n1 : IntKind.i64.wrap ((k : Int) + 1) = (a1 : Int) := by rw [IntWalk.i64_in _ (by omega)]; omega
          have t4 : (a4 : Int).tmod 5 = (x4 : Int) := by rw [Int.tmod_eq_emod_of_nonneg (by omega)]; omega
          have t1 : (a1 : Int).tmod 5 = (x1 : Int) := by rw [Int.tmod_eq_emod_of_nonneg (by omega)]; omega
          have t4' : (a4 : Int) % 5 = (x4 : Int) := by omega
          have t1' : (a1 : Int) % 5 = (x1 : Int) := by omega
          have b4 := colS_lt HB.out x4; have b1 := colS_lt HB.out x1
          obtain ⟨r, hr⟩ : ∃ r, r = rol (colS s x1) 1 := ⟨_, rfl⟩
          have hrl : r < 2 ^ 64 := by rw [hr]; exact rol_lt b1 (by omega)
          obtain ⟨d, hd⟩ : ∃ d, d = colS s x4 ^^^ r := ⟨_, rfl⟩
          have hdl : d < 2 ^ 64 := by rw [hd]; exact Nat.xor_lt_two_pow b4 hrl
          have hdS : dS s k = d := by rw [dS, ← hx4, ← hx1, ← hr, ← hd]
          have xd := xor64 _ _ d b4 hrl hd
          have hrot := fun (j : Nat) => rot_any (colS s x1) 1 (wr.drewN j) b1 (by omega)
          rw [← hr] at hrot
          have q4 : (x4 : Int) < 5 := by omega
          have q1 : (x1 : Int) < 5 := by omega
          have p4 : (0 : Int) ≤ x4 := by omega
          have p1 : (0 : Int) ≤ x1 := by omega
          have HROT := Lib.hid hrot; have HDS := Lib.hid hdS
          clear hx4 hx1 ha4 ha1 hr hd hrot hdS
          generalize colS s x4 = c4 at *
          generalize colS s x1 = c1 at *
          have m0 : (k : Int) < 5 := by omega
          have p0 : (0 : Int) ≤ k := by omega
          have HM := Lib.hid hm; have HC := Lib.hid hc; have HKW := Lib.hid hkw
          clear hm hc hkw
          go_wp2_with fail
          go_quiet ((go_at_call 140; exact quiet_leftK (HROT.out _)))
          have hkq : Kept (fun _ => False) wr (wr.drewN nq) := (Kept.refl _ _).drewN _
          have M0 := HM.out.kept hkq hgg (fun h => h)
          have C0 := HC.out.kept hkq hgc (fun h => h)
          have K0 := HKW.out.trans (KR.ofKept (lo := off) (hi := off + 25) hkq hgg) (Nat.le_refl _) (Nat.le_refl _) (Nat.le_refl _) (Nat.le_refl _)
          have gc0 : gc < (wr.drewN nq).heap.size := hgc
          have gg0 : g < (wr.drewN nq).heap.size := hgg
          generalize wr.drewN nq = w0 at *
          clear hkq HM HC HKW HROT hgc hgg e4 e1 n4 n1 t4 t1 t4' t1' q4 q1 p4 p1 b4 b1 hrl xd
          have p0 : (0 : Int) ≤ k := by omega
          have q0 : (k : Int) < 25 := by omega
          have hv0 : (mixK s k).getD k 0 = ln s (k + 0) := by
            rw [mixK_getD s k _ (by omega), if_neg (by omega)]; rfl
          have c0 := M0.cell k (by simp [mixK_length]; omega)
          have f0 := M0.free k (by simp [mixK_length]; omega)
          rw [hv0] at c0
          obtain ⟨y0, hy0⟩ : ∃ y, y = ln s (k + 0) ^^^ d := ⟨_, rfl⟩
          have xx := xor64 _ _ y0 (ln_lt HB.out (k + 0)) hdl hy0
          have S0 := M0.drew.set k y0 (by simp [mixK_length]; omega)
          have kr := KR.setCell g (off + k) off (off + 25) w0.drew (.int .u64 (y0 : Int)) (by omega)
          have C1 := C0.drew.kr kr gc0 (Or.inl (by omega))
          have K1 := K0.drew.trans kr (Nat.le_refl _) (Nat.le_refl _) (Nat.le_refl _) (Nat.le_refl _)
          have gc1 := Nat.lt_of_lt_of_le (show gc < w0.drew.heap.size from gc0) kr.kept.size
          have gg1 := Nat.lt_of_lt_of_le (show g < w0.drew.heap.size from gg0) kr.kept.size
          have HS0 := Lib.hid S0; have HC0 := Lib.hid C1; have HK0 := Lib.hid K1; have HY0 := Lib.hid hy0
          clear M0 C0 K0 S0 C1 K1 hv0 hy0 kr gc0 gg0
          obtain ⟨v0, hw0⟩ : ∃ v, v = ln s (k + 0) := ⟨_, rfl⟩
          rw [← hw0] at c0 xx
          have HV0 := Lib.hid hw0; clear hw0
          go_wp2_with fail
          go_still_tail 9, (by kernel_rfl)
          change wpList _ _ _ _ _ w0.drew
          replace c0 : w0.drew.cell? _ = _ := c0
          replace f0 : w0.drew.frozen? _ = _ := f0
          generalize w0.drew = z0 at *
          go_wp2_with fail
          clear c0 f0 xx p0 q0
          have M1 := HS0.out; have C1 := HC0.out; have K1 := HK0.out
          clear HS0 HC0 HK0
          generalize z0.setCell ⟨g, off + k, none⟩ (.int .u64 (y0 : Int)) = w1 at *
          obtain ⟨k1, hk1⟩ : ∃ j, j = k + 5 := ⟨_, rfl⟩
          have n1 : IntKind.i64.wrap ((k : Int) + 5) = (k1 : Int) := by rw [IntWalk.i64_in _ (by omega)]; omega
          have p1 : (0 : Int) ≤ k1 := by omega
          have q1 : (k1 : Int) < 25 := by omega
          have hv1 : ((mixK s k).set k y0).getD k1 0 = ln s (k + 5) := by
            rw [getD_set_ne _ _ _ _ (by omega), mixK_getD s k _ (by omega), if_neg (by omega), hk1]
          have c1 := M1.cell k1 (by simp [mixK_length]; omega)
          have f1 := M1.free k1 (by simp [mixK_length]; omega)
          rw [hv1] at c1
          obtain ⟨y1, hy1⟩ : ∃ y, y = ln s (k + 5) ^^^ d := ⟨_, rfl⟩
          have xx := xor64 _ _ y1 (ln_lt HB.out (k + 5)) hdl hy1
          have S1 := M1.drew.set k1 y1 (by simp [mixK_length]; omega)
          have kr := KR.setCell g (off + k1) off (off + 25) w1.drew (.int .u64 (y1 : Int)) (by omega)
          have C2 := C1.drew.kr kr gc1 (Or.inl (by omega))
          have K2 := K1.drew.trans kr (Nat.le_refl _) (Nat.le_refl _) (Nat.le_refl _) (Nat.le_refl _)
          have gc2 := Nat.lt_of_lt_of_le (show gc < w1.drew.heap.size from gc1) kr.kept.size
          have gg2 := Nat.lt_of_lt_of_le (show g < w1.drew.heap.size from gg1) kr.kept.size
          have HS1 := Lib.hid S1; have HC1 := Lib.hid C2; have HK1 := Lib.hid K2; have HY1 := Lib.hid hy1
          have HKK1 := Lib.hid hk1; clear hk1
          clear M1 C1 K1 S1 C2 K2 hv1 hy1 kr gc1 gg1
          obtain ⟨v1, hw1⟩ : ∃ v, v = ln s (k + 5) := ⟨_, rfl⟩
          rw [← hw1] at c1 xx
          have HV1 := Lib.hid hw1; clear hw1
          go_wp2_with fail
          go_still_tail 10, (by kernel_rfl)
          change wpList _ _ _ _ _ w1.drew
          replace c1 : w1.drew.cell? _ = _ := c1
          replace f1 : w1.drew.frozen? _ = _ := f1
          generalize w1.drew = z1 at *
          go_wp2_with fail
          clear c1 f1 xx p1 q1 n1
          have M2 := HS1.out; have C2 := HC1.out; have K2 := HK1.out
          clear HS1 HC1 HK1
          generalize z1.setCell ⟨g, off + k1, none⟩ (.int .u64 (y1 : Int)) = w2 at *
          obtain ⟨k2, hk2⟩ : ∃ j, j = k + 10 := ⟨_, rfl⟩
          have n2 : IntKind.i64.wrap ((k : Int) + 10) = (k2 : Int) := by rw [IntWalk.i64_in _ (by omega)]; omega
          have p2 : (0 : Int) ≤ k2 := by omega
          have q2 : (k2 : Int) < 25 := by omega
          have hv2 : (((mixK s k).set k y0).set k1 y1).getD k2 0 = ln s (k + 10) := by
            have a1 := HKK1.out; rw [getD_set_ne _ _ _ _ (by omega), getD_set_ne _ _ _ _ (by omega), mixK_getD s k _ (by omega), if_neg (by omega), hk2]
          have c2 := M2.cell k2 (by simp [mixK_length]; omega)
          have f2 := M2.free k2 (by simp [mixK_length]; omega)
          rw [hv2] at c2
          obtain ⟨y2, hy2⟩ : ∃ y, y = ln s (k + 10) ^^^ d := ⟨_, rfl⟩
          have xx := xor64 _ _ y2 (ln_lt HB.out (k + 10)) hdl hy2
          have S2 := M2.drew.set k2 y2 (by simp [mixK_length]; omega)
          have kr := KR.setCell g (off + k2) off (off + 25) w2.drew (.int .u64 (y2 : Int)) (by omega)
          have C3 := C2.drew.kr kr gc2 (Or.inl (by omega))
          have K3 := K2.drew.trans kr (Nat.le_refl _) (Nat.le_refl _) (Nat.le_refl _) (Nat.le_refl _)
          have gc3 := Nat.lt_of_lt_of_le (show gc < w2.drew.heap.size from gc2) kr.kept.size
          have gg3 := Nat.lt_of_lt_of_le (show g < w2.drew.heap.size from gg2) kr.kept.size
          have HS2 := Lib.hid S2; have HC2 := Lib.hid C3; have HK2 := Lib.hid K3; have HY2 := Lib.hid hy2
          have HKK2 := Lib.hid hk2; clear hk2
          clear M2 C2 K2 S2 C3 K3 hv2 hy2 kr gc2 gg2
          obtain ⟨v2, hw2⟩ : ∃ v, v = ln s (k + 10) := ⟨_, rfl⟩
          rw [← hw2] at c2 xx
          have HV2 := Lib.hid hw2; clear hw2
          go_wp2_with fail
          go_still_tail 10, (by kernel_rfl)
          change wpList _ _ _ _ _ w2.drew
          replace c2 : w2.drew.cell? _ = _ := c2
          replace f2 : w2.drew.frozen? _ = _ := f2
          generalize w2.drew = z2 at *
          go_wp2_with fail
          clear c2 f2 xx p2 q2 n2
          have M3 := HS2.out; have C3 := HC2.out; have K3 := HK2.out
          clear HS2 HC2 HK2
          generalize z2.setCell ⟨g, off + k2, none⟩ (.int .u64 (y2 : Int)) = w3 at *
          obtain ⟨k3, hk3⟩ : ∃ j, j = k + 15 := ⟨_, rfl⟩
          have n3 : IntKind.i64.wrap ((k : Int) + 15) = (k3 : Int) := by rw [IntWalk.i64_in _ (by omega)]; omega
          have p3 : (0 : Int) ≤ k3 := by omega
          have q3 : (k3 : Int) < 25 := by omega
          have hv3 : ((((mixK s k).set k y0).set k1 y1).set k2 y2).getD k3 0 = ln s (k + 15) := by
            have a1 := HKK1.out; have a2 := HKK2.out; rw [getD_set_ne _ _ _ _ (by omega), getD_set_ne _ _ _ _ (by omega), getD_set_ne _ _ _ _ (by omega), mixK_getD s k _ (by omega), if_neg (by omega), hk3]
          have c3 := M3.cell k3 (by simp [mixK_length]; omega)
          have f3 := M3.free k3 (by simp [mixK_length]; omega)
          rw [hv3] at c3
          obtain ⟨y3, hy3⟩ : ∃ y, y = ln s (k + 15) ^^^ d := ⟨_, rfl⟩
          have xx := xor64 _ _ y3 (ln_lt HB.out (k + 15)) hdl hy3
          have S3 := M3.drew.set k3 y3 (by simp [mixK_length]; omega)
          have kr := KR.setCell g (off + k3) off (off + 25) w3.drew (.int .u64 (y3 : Int)) (by omega)
          have C4 := C3.drew.kr kr gc3 (Or.inl (by omega))
          have K4 := K3.drew.trans kr (Nat.le_refl _) (Nat.le_refl _) (Nat.le_refl _) (Nat.le_refl _)
          have gc4 := Nat.lt_of_lt_of_le (show gc < w3.drew.heap.size from gc3) kr.kept.size
          have gg4 := Nat.lt_of_lt_of_le (show g < w3.drew.heap.size from gg3) kr.kept.size
          have HS3 := Lib.hid S3; have HC3 := Lib.hid C4; have HK3 := Lib.hid K4; have HY3 := Lib.hid hy3
          have HKK3 := Lib.hid hk3; clear hk3
          clear M3 C3 K3 S3 C4 K4 hv3 hy3 kr gc3 gg3
          obtain ⟨v3, hw3⟩ : ∃ v, v = ln s (k + 15) := ⟨_, rfl⟩
          rw [← hw3] at c3 xx
          have HV3 := Lib.hid hw3; clear hw3
          go_wp2_with fail
          go_still_tail 10, (by kernel_rfl)
          change wpList _ _ _ _ _ w3.drew
          replace c3 : w3.drew.cell? _ = _ := c3
          replace f3 : w3.drew.frozen? _ = _ := f3
          generalize w3.drew = z3 at *
          go_wp2_with fail
          clear c3 f3 xx p3 q3 n3
          have M4 := HS3.out; have C4 := HC3.out; have K4 := HK3.out
          clear HS3 HC3 HK3
          generalize z3.setCell ⟨g, off + k3, none⟩ (.int .u64 (y3 : Int)) = w4 at *
          obtain ⟨k4, hk4⟩ : ∃ j, j = k + 20 := ⟨_, rfl⟩
          have n4 : IntKind.i64.wrap ((k : Int) + 20) = (k4 : Int) := by rw [IntWalk.i64_in _ (by omega)]; omega
          have p4 : (0 : Int) ≤ k4 := by omega
          have q4 : (k4 : Int) < 25 := by omega
          have hv4 : (((((mixK s k).set k y0).set k1 y1).set k2 y2).set k3 y3).getD k4 0 = ln s (k + 20) := by
            have a1 := HKK1.out; have a2 := HKK2.out; have a3 := HKK3.out; rw [getD_set_ne _ _ _ _ (by omega), getD_set_ne _ _ _ _ (by omega), getD_set_ne _ _ _ _ (by omega), getD_set_ne _ _ _ _ (by omega), mixK_getD s k _ (by omega), if_neg (by omega), hk4]
          have c4 := M4.cell k4 (by simp [mixK_length]; omega)
          have f4 := M4.free k4 (by simp [mixK_length]; omega)
          rw [hv4] at c4
          obtain ⟨y4, hy4⟩ : ∃ y, y = ln s (k + 20) ^^^ d := ⟨_, rfl⟩
          have xx := xor64 _ _ y4 (ln_lt HB.out (k + 20)) hdl hy4
          have S4 := M4.drew.set k4 y4 (by simp [mixK_length]; omega)
          have kr := KR.setCell g (off + k4) off (off + 25) w4.drew (.int .u64 (y4 : Int)) (by omega)
          have C5 := C4.drew.kr kr gc4 (Or.inl (by omega))
          have K5 := K4.drew.trans kr (Nat.le_refl _) (Nat.le_refl _) (Nat.le_refl _) (Nat.le_refl _)
          have gc5 := Nat.lt_of_lt_of_le (show gc < w4.drew.heap.size from gc4) kr.kept.size
          have gg5 := Nat.lt_of_lt_of_le (show g < w4.drew.heap.size from gg4) kr.kept.size
          have HS4 := Lib.hid S4; have HC4 := Lib.hid C5; have HK4 := Lib.hid K5; have HY4 := Lib.hid hy4
          have HKK4 := Lib.hid hk4; clear hk4
          clear M4 C4 K4 S4 C5 K5 hv4 hy4 kr gc4 gg4
          obtain ⟨v4, hw4⟩ : ∃ v, v = ln s (k + 20) := ⟨_, rfl⟩
          rw [← hw4] at c4 xx
          have HV4 := Lib.hid hw4; clear hw4
          go_wp2_with fail
          go_still_tail 10, (by kernel_rfl)
          change wpList _ _ _ _ _ w4.drew
          replace c4 : w4.drew.cell? _ = _ := c4
          replace f4 : w4.drew.frozen? _ = _ := f4
          generalize w4.drew = z4 at *
          go_wp2_with fail
          clear c4 f4 xx p4 q4 n4
          go_roundw
          case rel =>
            have e := mixK_succ s k hlt
            rw [HDS.out, ← HY1.out, ← HY2.out, ← HY3.out, ← HY4.out, show ln s k ^^^ d = y0 from HY0.out.symm, ← HKK1.out, ← HKK2.out, ← HKK3.out, ← HKK4.out] at e
            have hl := HS4.out
            rw [← e] at hl
            first
              | exact ⟨k + 1, by omega, by go_num, hl, HC4.out, HK4.out, gc5, gg5⟩
              | ((repeat apply Exists.intro); exact ⟨⟨k + 1, by omega, by go_num, hl, HC4.out, HK4.out, gc5, gg5⟩, rfl⟩)
          case measure => simp [intOf]; omega
        · obtain rfl : k = 5 := by omega
          rw [mixK_five] at hm
          have HM := Lib.hid hm; have HKW := Lib.hid hkw
          clear hm hkw hc
          go_wp2_with fail
          go_end0
          exact ⟨rfl, HM.out, HKW.out⟩
end Go.Proofs.YtjglnpijngdpkaaGreatDoor
/-
  Whole arrays in memory: load and store of one that lies inside a greater block, an array value at an index, a block of words known whole; the tables of keccak.
-/
namespace Go.Proofs.YtjglnpijngdpkaaGreatDoor
open Go.RowKit

section
variable {P : Program}

theorem run_loadVar_at (w : World) (g off : Nat) (ty : TypeId) (cs : List Value) (d : TypeDesc) (hc : ∀ j v, cs[j]? = some v → w.cell? ⟨g, off + j, none⟩ = some v)
    (hu : P.underlying ty = some d) (hd : (match d with | .struct _ | .array _ _ => true | _ => false) = true) (hi : (P.info? ty).map (·.size) = some cs.length) :
    (loadVar ty ⟨g, off, none⟩).run P w = .ok (.agg cs.toArray) w := by
  have hl : (loadCells ⟨g, off, none⟩ cs.length).run P w = .ok cs.toArray w :=
    run_loadCells_list (P := P) w ⟨g, off, none⟩ cs (fun j v hv => by
      have hadd : (⟨g, off, none⟩ : Addr).add j = ⟨g, off + j, none⟩ := by unfold Addr.add; split <;> simp_all
      rw [hadd]; exact hc j v hv)
  cases hq : P.info? ty with
  | none => simp [hq] at hi
  | some i =>
    have hs : i.size = cs.length := by simpa [hq] using hi
    have hagg : (isAgg ty).run P w = .ok true w := by
      unfold isAgg
      rw [Sem.run_bind, run_underlying hu w]
      cases d <;> simp_all
    simp [loadVar, Sem.run_bind, hagg, sizeOf, typeInfo, hq, hs, hl]

theorem wpList_load_at {ops : Array Oper} {rest : List Oper} {o : Oper} {a : Act} {w : World} {Q : Exit → Act → World → Prop} (hgd : o.guard = none) (ty : TypeId) (x : Operand) (ho : o.op = .load ty x)
    (g off : Nat) (hx : a.eval x = .pointer (some ⟨g, off, none⟩)) (cs : List Value) (d : TypeDesc) (hc : ∀ j v, cs[j]? = some v → w.cell? ⟨g, off + j, none⟩ = some v)
    (hu : P.underlying ty = some d) (hd : (match d with | .struct _ | .array _ _ => true | _ => false) = true) (hi : (P.info? ty).map (·.size) = some cs.length)
    (h : wpList P ops Q rest (a.put o.dst (.agg cs.toArray)) w) : wpList P ops Q (o :: rest) a w := by
  refine wpList_plain hgd fun K hK => ?_
  unfold Oper.wp execOp
  simp only [ho, hx, Instr.loadAt, Instr.sureAddr, Sem.run_bind, Sem.run_pure, Result.andThen_ok, run_loadVar_at w g off ty cs d hc hu hd hi]
  exact hK _ _ h

theorem run_storeVar_at (w : World) (g off : Nat) (ty : TypeId) (cs : List Value) (hc : ∀ j, j < cs.length → (w.cell? ⟨g, off + j, none⟩).isSome = true) (hf : ∀ j, j < cs.length → w.frozen? ⟨g, off + j, none⟩ = false) (h1 : ∀ v ∈ cs, v.oneCell' = true)
    (hi : (P.info? ty).map (·.size) = some cs.length) :
    (storeVar ty ⟨g, off, none⟩ (.agg cs.toArray)).run P w = .ok () (w.setCells g off cs) := by
  have hst := run_storeCells_cells (P := P) g off cs 0 w (by simpa using hc) (by simpa using hf) h1
  rw [Nat.add_zero] at hst
  cases hq : P.info? ty with
  | none => simp [hq] at hi
  | some i =>
    have hs : cs.length = i.size := by simp [hq] at hi; omega
    simp [storeVar, sizeOf, typeInfo, hq, Value.cells, hs, hst]

theorem wpList_store_at {ops : Array Oper} {rest : List Oper} {o : Oper} {a : Act} {w : World} {Q : Exit → Act → World → Prop} (hgd : o.guard = none) (ty : TypeId) (x y : Operand) (ho : o.op = .store ty x y)
    (g off : Nat) (cs : List Value) (hx : a.eval x = .pointer (some ⟨g, off, none⟩)) (hy : a.eval y = .agg cs.toArray)
    (hc : ∀ j, j < cs.length → (w.cell? ⟨g, off + j, none⟩).isSome = true) (hf : ∀ j, j < cs.length → w.frozen? ⟨g, off + j, none⟩ = false) (h1 : ∀ v ∈ cs, v.oneCell' = true)
    (hi : (P.info? ty).map (·.size) = some cs.length)
    (h : wpList P ops Q rest (a.put o.dst undef) (w.setCells g off cs)) : wpList P ops Q (o :: rest) a w := by
  refine wpList_plain hgd fun K hK => ?_
  unfold Oper.wp execOp
  simp only [ho, hx, hy, Instr.storeAt, Instr.sureAddr, Sem.run_bind, Sem.run_pure, Result.andThen_ok, run_storeVar_at w g off ty cs hc hf h1 hi]
  exact hK _ _ h

/-- An array value of integers at an index. -/
theorem run_index_agg (w : World) (t e : TypeId) (n : Nat) (cs : Array Value) (i : Nat) (v : Value) (k : IntKind) (ie : TypeInfo) (ht : P.underlying t = some (.array n e)) (he : P.underlying e = some (.int k))
    (hie : P.info? e = some ie) (hs : ie.size = 1) (hi : i < n) (hv : cs[i]? = some v) : (Instr.index t (.agg cs) (.int .i64 i)).run P w = .ok v w := by
  have hagg : (isAgg e).run P w = .ok false w := by
    unfold isAgg
    rw [Sem.run_bind, run_underlying he w]
    simp
  have hi' : (i : Int) < n := by omega
  simp [Instr.index, asIntOf, run_underlying ht, part, hagg, sizeOf, typeInfo, hie, hs, hv, hi]
end

/-- A block that is just these words. -/
def arr (s : List Nat) : List Value := s.map fun n : Nat => Value.int .u64 (n : Int)
theorem arr_length (s : List Nat) : (arr s).length = s.length := by simp [arr]
theorem arr_get (s : List Nat) (i : Nat) (hi : i < s.length) : (arr s)[i]? = some (.int .u64 (ln s i : Nat)) := by simp [arr, ln, List.getD, hi]
theorem arr_one (s : List Nat) : ∀ v ∈ arr s, v.oneCell' = true := by
  intro v hv
  simp only [arr, List.mem_map] at hv
  obtain ⟨n, _, rfl⟩ := hv
  rfl
structure KTab (w : World) : Prop where
  lt1 : 7 < w.heap.size
  lt2 : 8 < w.heap.size
  lt3 : 5 < w.heap.size
  turn : ∀ i, i < 25 → w.cell? ⟨7, i, none⟩ = some (.int .u8 (trn.getD i 0 : Nat))
  place : ∀ i, i < 25 → w.cell? ⟨8, i, none⟩ = some (.int .u8 (plc.getD i 0 : Nat))
  rc : ∀ i, i < 24 → w.cell? ⟨5, i, none⟩ = some (.int .u64 (rcs.getD i 0 : Nat))
theorem KTab.kept {S : Nat → Prop} {a b : World} (h : KTab a) (hk : Kept S a b) (hn : ∀ k, k < 10 → ¬ S k) : KTab b :=
  ⟨Nat.lt_of_lt_of_le h.lt1 hk.size, Nat.lt_of_lt_of_le h.lt2 hk.size, Nat.lt_of_lt_of_le h.lt3 hk.size,
    fun i hi => (hk.cell (p := ⟨7, i, none⟩) h.lt1 (hn 7 (by decide))).trans (h.turn i hi), fun i hi => (hk.cell (p := ⟨8, i, none⟩) h.lt2 (hn 8 (by decide))).trans (h.place i hi), fun i hi => (hk.cell (p := ⟨5, i, none⟩) h.lt3 (hn 5 (by decide))).trans (h.rc i hi)⟩

theorem results_cell_at {P : Program} {fn : Func} {p : Tmp} {ty : TypeId} (h : fn.results = #[.cell p ty]) (tmps : Array Value) (w : World) (g : Nat) (cs : List Value) (d : TypeDesc)
    (hp : tmps.getD p undef = .pointer (some ⟨g, 0, none⟩)) (hc : ∀ j v, cs[j]? = some v → w.cell? ⟨g, 0 + j, none⟩ = some v)
    (hu : P.underlying ty = some d) (hd : (match d with | .struct _ | .array _ _ => true | _ => false) = true) (hi : (P.info? ty).map (·.size) = some cs.length) :
    (results fn tmps).run P w = .ok (.agg cs.toArray) w := by
  have hp' : tmps[p]?.getD undef = .pointer (some ⟨g, 0, none⟩) := by simpa using hp
  simp [results, h, hp', asAddr, run_loadVar_at w g 0 ty cs d hc hu hd hi]

theorem Kept.setCells (g : Nat) : ∀ (cs : List Value) (off : Nat) (w : World), Kept (fun k => k = g) w (w.setCells g off cs)
  | [], _, _ => Kept.refl _ _
  | v :: r, off, w => (Kept.setCell (fun k => k = g) w ⟨g, off, none⟩ v rfl).trans (Kept.setCells g r (off + 1) _) (fun _ _ h => h) (fun _ _ h => h)
theorem KR.setCells (g : Nat) : ∀ (cs : List Value) (off lo hi : Nat) (w : World), lo ≤ off → off + cs.length ≤ hi → KR g lo hi w (w.setCells g off cs)
  | [], _, lo, hi, w, _, _ => KR.refl _ _ _ _
  | v :: r, off, lo, hi, w, h1, h2 => by
    simp at h2
    exact (KR.setCell g off lo hi w v (by omega)).trans (KR.setCells g r (off + 1) lo hi _ (by omega) (by omega)) (Nat.le_refl _) (Nat.le_refl _) (Nat.le_refl _) (Nat.le_refl _)
/-- Behind a store of words. -/
theorem Lanes.setCells {w : World} {g off : Nat} {s t : List Nat} (h : Lanes w g off s) (hl : s.length = t.length) : Lanes (w.setCells g off (arr t)) g off t := by
  refine ⟨fun i hi => ?_, fun i hi => ?_⟩
  · have := World.cell?_setCells_in g (arr t) off w (fun j hj => by rw [h.cell j (by rw [arr_length] at hj; omega)]; rfl) i (by rw [arr_length]; exact hi)
    rw [this]
    simp [arr, List.getD, hi]
  · rw [World.frozen?_setCells]; exact h.free i (by omega)
theorem Lanes.get {w : World} {g off : Nat} {s : List Nat} (h : Lanes w g off s) : ∀ j v, (arr s)[j]? = some v → w.cell? ⟨g, off + j, none⟩ = some v := by
  intro j v hv
  have hj : j < s.length := by
    have := (List.getElem?_eq_some_iff.1 hv).1
    rwa [arr_length] at this
  rw [h.cell j hj, ← hv, arr_get s j hj]; rfl
end Go.Proofs.YtjglnpijngdpkaaGreatDoor
/-
  arbac/keccak: moved, permute.
-/
namespace Go.Proofs.YtjglnpijngdpkaaGreatDoor
open Go.RowKit

theorem size25 : (Tryz.prog.info? 119).map (·.size) = some 25 := by kernel_rfl

set_option maxRecDepth 100000 in
set_option maxHeartbeats 1600000 in
theorem moved_any (w : World) (g off : Nat) (s : List Nat) (h25 : s.length = 25) (hb : ∀ x ∈ s, x < 2 ^ 64) (h : Lanes w g off s) (hg : g < w.heap.size) (hT : KTab w) :
    Calls Tryz.prog 129 #[.pointer (some ⟨g, off, none⟩)] w fun e w' => e = .returned (.agg (arr (movS s)).toArray) ∧ Kept (fun _ => False) w w' := by
  have HH := Lib.hid h; have HB := Lib.hid hb; have H25 := Lib.hid h25; have HT := Lib.hid hT
  clear h hb h25 hT
  go_enter Tryz.func129, Tryz.ntmps129
  go_wp2_with fail
  go_loopw [4, 5, 7] (fun _ _ i W => ∃ k : Nat, k ≤ 25 ∧ i = .int .i64 k ∧ Lanes W (w.heap.size + 1) 0 (movK s k) ∧ Lanes W w.heap.size 0 (List.replicate 25 0) ∧ Kept (fun _ => False) w W ∧ w.heap.size + 1 < W.heap.size) (fun _ _ i _ => 25 - (intOf i).toNat)
  case atStart =>
    refine ⟨0, by omega, rfl, ?_, ?_, (Kept.alloc _ _ _).then (Kept.alloc _ _ _), by simp⟩
    · have := lanes_new (w.alloc (.cells (arr (List.replicate 25 0)).toArray 119)) (arr (List.replicate 25 0)).toArray 119 (movK s 0) rfl
      rw [show (w.alloc (.cells (arr (List.replicate 25 0)).toArray 119)).heap.size = w.heap.size + 1 by simp] at this
      exact this
    · exact (lanes_new w (arr (List.replicate 25 0)).toArray 119 (List.replicate 25 0) rfl).kept (Kept.alloc (fun _ => False) _ _) (by simp) (fun h => h)
  case round =>
    obtain ⟨k, hk, rfl, hm, hz, hkw, hsz⟩ := hrel
    by_cases hlt : k < 25
    · have hs1 := HH.out.kept hkw hg (fun h => h)
      have e0 := hs1.at k (by rw [H25.out]; exact hlt)
      have hT1 := HT.out.kept hkw (fun _ _ h => h)
      have t1 := hT1.turn k hlt
      have t2 := hT1.place k hlt
      have hp := plc_lt k
      have ht := trn_lt k
      have hx := ln_lt HB.out k
      have hsucc := movK_succ s k
      have hgg := Nat.lt_of_lt_of_le hg hkw.size
      obtain ⟨x, hxe⟩ : ∃ x, x = ln s k := ⟨_, rfl⟩
      obtain ⟨p, hpe⟩ : ∃ x, x = plc.getD k 0 := ⟨_, rfl⟩
      obtain ⟨t, hte⟩ : ∃ x, x = trn.getD k 0 := ⟨_, rfl⟩
      rw [← hxe] at e0 hx hsucc
      rw [← hpe] at t2 hp hsucc
      rw [← hte] at t1 ht hsucc
      have HS := Lib.hid hsucc
      clear hsucc hxe hpe hte hs1 hT1
      obtain ⟨y, hy⟩ : ∃ y, y = rol x t := ⟨_, rfl⟩
      have hrot := fun (W : World) => rot_any x t W hx ht
      rw [← hy] at hrot HS
      have HROT := Lib.hid hrot
      clear hrot hy
      have m0 : (k : Int) < 25 := by omega
      have p0 : (0 : Int) ≤ k := by omega
      have m1 : (p : Int) < 25 := by omega
      have p1 : (0 : Int) ≤ p := by omega
      have hw : IntKind.i64.wrap (t : Int) = (t : Int) := IntWalk.i64_in _ (by omega)
      have HM := Lib.hid hm; have HZ := Lib.hid hz; have HK := Lib.hid hkw
      clear hm hz hkw
      go_wp2_with fail
      go_quiet (fail)
      have t1' : (wr.drewN nq).cell? _ = _ := t1
      have t2' : (wr.drewN nq).cell? _ = _ := t2
      have hkq : Kept (fun _ => False) wr (wr.drewN nq) := (Kept.refl _ _).drewN _
      have hsz1 : w.heap.size + 1 < (wr.drewN nq).heap.size := hsz
      have M1 := HM.out.kept hkq (by omega) (fun h => h)
      have Z1 := HZ.out.kept hkq (by omega) (fun h => h)
      have K1 := HK.out.then hkq
      clear HM HZ HK hsz hkq t1 t2 e0
      generalize wr.drewN nq = w1 at *
      have d := M1.cell p (by rw [movK_length]; exact hp)
      have f := M1.free p (by rw [movK_length]; exact hp)
      rw [Nat.zero_add] at d f
      generalize (movK s k).getD p 0 = old at d
      have S1 := M1.drew.set p y (by rw [movK_length]; exact hp)
      rw [Nat.zero_add, ← HS.out] at S1
      have kr := Kept.setCell (fun k => k = w.heap.size + 1) w1.drew ⟨w.heap.size + 1, p, none⟩ (.int .u64 (y : Int)) rfl
      have Z2 := Z1.drew.kept kr (by simp; omega) (by omega)
      have K2 := K1.drew.trans kr (T := fun _ => False) (fun _ _ h => h) (fun i hi e => by omega)
      have hsz2 := Nat.lt_of_lt_of_le hsz1 kr.size
      have HS1 := Lib.hid S1; have HZ2 := Lib.hid Z2; have HK2 := Lib.hid K2
      clear S1 Z2 K2 M1 Z1 K1 kr
      go_wp2_with fail
      go_still_tail 10, (by kernel_rfl)
      still_call ((HROT.out _).mono (fun _ _ h => ⟨h.1, h.2.symm⟩))
      repeat still_step
      refine wpStill_nil ?_
      change wpList _ _ _ _ _ w1.drew
      replace d : w1.drew.cell? _ = _ := d
      replace f : w1.drew.frozen? _ = _ := f
      clear t1' t2' hw
      generalize w1.drew = w2 at *
      go_wp2_with fail
      have hl : Lanes (w2.setCell ⟨w.heap.size + 1, p, none⟩ (.int .u64 (y : Int))) (w.heap.size + 1) 0 (movK s (k + 1)) := HS1.out
      go_roundw
      case rel =>
        first
          | exact ⟨k + 1, by omega, by go_num, hl, HZ2.out, HK2.out, hsz2⟩
          | ((repeat apply Exists.intro); exact ⟨⟨k + 1, by omega, by go_num, hl, HZ2.out, HK2.out, hsz2⟩, rfl⟩)
      case measure => simp [intOf]; omega
    · obtain rfl : k = 25 := by omega
      have hms : movK s 25 = movS s := rfl
      rw [hms] at hm
      have hml : (movS s).length = 25 := movK_length s 25
      have hg1 := hm.get
      have z1 : ∀ j, j < (arr (movS s)).length → (wr.cell? ⟨w.heap.size, 0 + j, none⟩).isSome = true := fun j hj => by
        rw [arr_length, hml] at hj; rw [hz.cell j (by simpa using hj)]; rfl
      have z2 : ∀ j, j < (arr (movS s)).length → wr.frozen? ⟨w.heap.size, 0 + j, none⟩ = false := fun j hj => by
        rw [arr_length, hml] at hj; exact hz.free j (by simpa using hj)
      have hsz25 : (Tryz.prog.info? 119).map (·.size) = some (arr (movS s)).length := by rw [arr_length, hml]; exact size25
      have hfin := (hz.setCells (t := movS s) (by simp [hml])).get
      have kr := Kept.setCells w.heap.size (arr (movS s)) 0 wr
      have K2 := hkw.trans kr (T := fun _ => False) (fun _ _ h => h) (fun i hi e => by omega)
      have G1 := Lib.hid hg1; have Z1 := Lib.hid z1; have Z2 := Lib.hid z2; have HF := Lib.hid hfin; have HK2 := Lib.hid K2; have HS25 := Lib.hid hsz25
      have hone := arr_one (movS s)
      have HO := Lib.hid hone
      clear hg1 z1 z2 hfin K2 kr hm hz hkw hms hml hone hsz25
      obtain ⟨cs, hcs⟩ : ∃ cs, cs = arr (movS s) := ⟨_, rfl⟩
      rw [← hcs] at G1 Z1 Z2 HF HK2 HS25 HO
      have HCS := Lib.hid hcs; clear hcs
      go_wp2_with (first | (refine wpList_load_at rfl 119 _ rfl (w.heap.size + 1) 0 rfl cs _ G1.out Tryz.underlying119 rfl HS25.out ?_) | (refine wpList_store_at rfl 119 _ _ rfl w.heap.size 0 cs rfl rfl Z1.out Z2.out HO.out HS25.out ?_))
      refine bodyPost_ret_by (v := .agg cs.toArray) ?_ ?_ ?_
      · exact results_cell_at Tryz.results129 _ _ w.heap.size cs _ rfl HF.out Tryz.underlying119 rfl HS25.out
      · rfl
      · exact ⟨by rw [HCS.out], HK2.out⟩
end Go.Proofs.YtjglnpijngdpkaaGreatDoor
/-
  arbac/keccak: permute.
-/
namespace Go.Proofs.YtjglnpijngdpkaaGreatDoor
open Go.RowKit

section
variable {P : Program}
theorem wpList_index_agg {ops : Array Oper} {rest : List Oper} {o : Oper} {a : Act} {w : World} {Q : Exit → Act → World → Prop} (hgd : o.guard = none) (t : TypeId) (x y : Operand) (ho : o.op = .index t x y)
    (e : TypeId) (n : Nat) (cs : Array Value) (i : Nat) (v : Value) (k : IntKind) (ie : TypeInfo) (hx : a.eval x = .agg cs) (hy : a.eval y = .int .i64 i) (ht : P.underlying t = some (.array n e)) (he : P.underlying e = some (.int k))
    (hie : P.info? e = some ie) (hs : ie.size = 1) (hi : i < n) (hv : cs[i]? = some v)
    (h : wpList P ops Q rest (a.put o.dst v) w) : wpList P ops Q (o :: rest) a w := by
  refine wpList_plain hgd fun K hK => ?_
  unfold Oper.wp execOp
  simp only [ho, hx, hy, Sem.run_bind, Sem.run_pure, Result.andThen_ok, run_index_agg w t e n cs i v k ie ht he hie hs hi hv]
  exact hK _ _ h
end

/-- Row k of a state. -/
def rowL (b : List Nat) (k : Nat) : List Nat := [ln b (5 * k), ln b (5 * k + 1), ln b (5 * k + 2), ln b (5 * k + 3), ln b (5 * k + 4)]
def chiR (b : List Nat) (k : Nat) : List Nat :=
  [chi1 (ln b (5 * k)) (ln b (5 * k + 1)) (ln b (5 * k + 2)), chi1 (ln b (5 * k + 1)) (ln b (5 * k + 2)) (ln b (5 * k + 3)), chi1 (ln b (5 * k + 2)) (ln b (5 * k + 3)) (ln b (5 * k + 4)), chi1 (ln b (5 * k + 3)) (ln b (5 * k + 4)) (ln b (5 * k)), chi1 (ln b (5 * k + 4)) (ln b (5 * k)) (ln b (5 * k + 1))]
/-- Step 3: every row; and how far it has come behind k rows. -/
def chiS (b : List Nat) : List Nat := chiR b 0 ++ chiR b 1 ++ chiR b 2 ++ chiR b 3 ++ chiR b 4
def chiK (b m : List Nat) (k : Nat) : List Nat := (chiS b).take (5 * k) ++ m.drop (5 * k)
def rndS (s : List Nat) (c : Nat) : List Nat := (chiS (movS (mixS s))).set 0 (ln (chiS (movS (mixS s))) 0 ^^^ c)
def permK (s : List Nat) (k : Nat) : List Nat := (rcs.take k).foldl rndS s
def permS (s : List Nat) : List Nat := rcs.foldl rndS s
theorem chiS_length (b : List Nat) : (chiS b).length = 25 := by simp [chiS, chiR]
theorem chiK_length (b m : List Nat) (k : Nat) (hm : m.length = 25) (hk : k ≤ 5) : (chiK b m k).length = 25 := by simp [chiK, chiS_length, hm]; omega
theorem chiK_zero (b m : List Nat) : chiK b m 0 = m := by simp [chiK]
theorem chiK_five (b m : List Nat) (hm : m.length = 25) : chiK b m 5 = chiS b := by simp [chiK, hm, List.take_of_length_le, chiS_length]
theorem chiR_lt {b : List Nat} (h : ∀ x ∈ b, x < 2 ^ 64) (k : Nat) : ∀ x ∈ chiR b k, x < 2 ^ 64 := by
  intro x hx
  simp only [chiR, List.mem_cons, List.not_mem_nil, or_false] at hx
  rcases hx with rfl | rfl | rfl | rfl | rfl <;> exact chi1_lt (ln_lt h _) (ln_lt h _)
theorem chiS_lt {b : List Nat} (h : ∀ x ∈ b, x < 2 ^ 64) : ∀ x ∈ chiS b, x < 2 ^ 64 := by
  intro x hx
  simp only [chiS, List.mem_append] at hx
  rcases hx with (((hx | hx) | hx) | hx) | hx <;> exact chiR_lt h _ x hx
theorem chiS_row (b : List Nat) (k : Nat) (hk : k < 5) : ((chiS b).drop (5 * k)).take 5 = chiR b k := by
  match k, hk with
  | 0, _ => rfl
  | 1, _ => rfl
  | 2, _ => rfl
  | 3, _ => rfl
  | 4, _ => rfl
theorem rcs_lt (k : Nat) : rcs.getD k 0 < 2 ^ 64 := by
  by_cases hk : k < 24
  · have : ∀ k, k < 24 → rcs.getD k 0 < 2 ^ 64 := by decide
    exact this k hk
  · rw [List.getD_eq_getElem?_getD, List.getElem?_eq_none (by simp [rcs]; omega)]; simp
theorem rndS_length (s : List Nat) (c : Nat) : (rndS s c).length = 25 := by simp [rndS, chiS_length]
theorem rndS_lt {s : List Nat} (h : ∀ x ∈ s, x < 2 ^ 64) {c : Nat} (hc : c < 2 ^ 64) : ∀ x ∈ rndS s c, x < 2 ^ 64 :=
  set_lt (chiS_lt (movK_lt (mixS_lt h) 25)) _ _ (Nat.xor_lt_two_pow (ln_lt (chiS_lt (movK_lt (mixS_lt h) 25)) _) hc)
theorem permK_succ (s : List Nat) (k : Nat) (hk : k < 24) : permK s (k + 1) = rndS (permK s k) (rcs.getD k 0) := by
  unfold permK
  rw [List.take_succ_eq_append_getElem (by simp [rcs]; omega), List.foldl_append]
  simp [List.getD, show k < rcs.length by simp [rcs]; omega]
theorem permK_inv {s : List Nat} (h : ∀ x ∈ s, x < 2 ^ 64) (hs : s.length = 25) (k : Nat) (hk : k ≤ 24) : (permK s k).length = 25 ∧ ∀ x ∈ permK s k, x < 2 ^ 64 := by
  induction k with
  | zero => exact ⟨hs, h⟩
  | succ k ih =>
    rw [permK_succ s k (by omega)]
    exact ⟨rndS_length _ _, rndS_lt (ih (by omega)).2 (rcs_lt k)⟩
theorem permS_lt {s : List Nat} (h : ∀ x ∈ s, x < 2 ^ 64) (hs : s.length = 25) : (permS s).length = 25 ∧ ∀ x ∈ permS s, x < 2 ^ 64 := permK_inv h hs 24 (by omega)

theorem Lanes.part {w : World} {g off : Nat} {s : List Nat} (h : Lanes w g off s) (a : Nat) (t : List Nat) (ht : ∀ i, i < t.length → a + i < s.length ∧ t.getD i 0 = s.getD (a + i) 0) : Lanes w g (off + a) t :=
  ⟨fun i hi => by have := h.cell (a + i) (ht i hi).1; rw [← Nat.add_assoc] at this; rw [this, (ht i hi).2], fun i hi => by have := h.free (a + i) (ht i hi).1; rwa [← Nat.add_assoc] at this⟩
theorem Lanes.row {w : World} {g off : Nat} {b : List Nat} (h : Lanes w g off b) (hb : b.length = 25) (k : Nat) (hk : k < 5) : Lanes w g (off + 5 * k) (rowL b k) := by
  refine h.part (5 * k) _ fun i hi => ?_
  have hi5 : i < 5 := hi
  refine ⟨by omega, ?_⟩
  match i, hi5 with
  | 0, _ => rfl
  | 1, _ => rfl
  | 2, _ => rfl
  | 3, _ => rfl
  | 4, _ => rfl
theorem chiK_step {w w' : World} {g off k : Nat} {b m : List Nat} (hm : m.length = 25) (hk : k < 5) (h : Lanes w g off (chiK b m k)) (hr : Lanes w' g (off + 5 * k) (chiR b k)) (kr : KR g (off + 5 * k) (off + 5 * k + 5) w w') : Lanes w' g off (chiK b m (k + 1)) := by
  have hl1 := chiK_length b m k hm (by omega)
  have hl2 := chiK_length b m (k + 1) hm (by omega)
  have hval : ∀ i, i < 25 → ¬ (5 * k ≤ i ∧ i < 5 * k + 5) → (chiK b m (k + 1)).getD i 0 = (chiK b m k).getD i 0 := by
    intro i hi hn
    simp only [chiK, List.getD_eq_getElem?_getD]
    by_cases h1 : i < 5 * k
    · rw [List.getElem?_append_left (by simp [chiS_length]; omega), List.getElem?_append_left (by simp [chiS_length]; omega), List.getElem?_take_of_lt (by omega), List.getElem?_take_of_lt (by omega)]
    · rw [List.getElem?_append_right (by simp [chiS_length]; omega), List.getElem?_append_right (by simp [chiS_length]; omega)]
      simp only [List.length_take, chiS_length, List.getElem?_drop]
      congr 2
      omega
  have hrow : ∀ i, 5 * k ≤ i → i < 5 * k + 5 → (chiK b m (k + 1)).getD i 0 = (chiR b k).getD (i - 5 * k) 0 := by
    intro i h1 h2
    rw [← chiS_row b k hk]
    simp only [chiK, List.getD_eq_getElem?_getD]
    rw [List.getElem?_append_left (by simp [chiS_length]; omega), List.getElem?_take_of_lt (by omega), List.getElem?_take_of_lt (by omega), List.getElem?_drop]
    congr 2
    omega
  refine ⟨fun i hi => ?_, fun i hi => ?_⟩
  · rw [hl2] at hi
    by_cases hin : 5 * k ≤ i ∧ i < 5 * k + 5
    · have := hr.cell (i - 5 * k) (by simp [chiR]; omega)
      rw [show off + 5 * k + (i - 5 * k) = off + i by omega] at this
      rw [this, hrow i hin.1 hin.2]
    · rw [kr.out _ (by omega), h.cell i (by omega), hval i hi hin]
  · rw [hl2] at hi
    rw [kr.frozen]; exact h.free i (by omega)

def NoTab (g : Nat) : Prop := g ≠ 7 ∧ g ≠ 8 ∧ g ≠ 5
theorem KTab.keptNe {g : Nat} {a b : World} (h : KTab a) (hk : Kept (fun k => k = g) a b) (hn : NoTab g) : KTab b :=
  ⟨Nat.lt_of_lt_of_le h.lt1 hk.size, Nat.lt_of_lt_of_le h.lt2 hk.size, Nat.lt_of_lt_of_le h.lt3 hk.size,
    fun i hi => (hk.cell (p := ⟨7, i, none⟩) h.lt1 (fun e => hn.1 e.symm)).trans (h.turn i hi), fun i hi => (hk.cell (p := ⟨8, i, none⟩) h.lt2 (fun e => hn.2.1 e.symm)).trans (h.place i hi), fun i hi => (hk.cell (p := ⟨5, i, none⟩) h.lt3 (fun e => hn.2.2 e.symm)).trans (h.rc i hi)⟩
theorem KTab.fresh {w : World} (h : KTab w) {g : Nat} (hg : w.heap.size ≤ g) : NoTab g := by
  have := h.lt1; have := h.lt2; have := h.lt3
  refine ⟨?_, ?_, ?_⟩ <;> omega

theorem size24 : (Tryz.prog.info? 176).map (·.size) = some 24 := by kernel_rfl

set_option maxRecDepth 100000 in
set_option maxHeartbeats 1600000 in
theorem permute_any (w : World) (g off : Nat) (s : List Nat) (h25 : s.length = 25) (hb : ∀ x ∈ s, x < 2 ^ 64) (h : Lanes w g off s) (hg : g < w.heap.size) (hT : KTab w) (hn : NoTab g) :
    Calls Tryz.prog 114 #[.pointer (some ⟨g, off, none⟩)] w fun e w' => e = .returned (.tuple #[]) ∧ Lanes w' g off (permS s) ∧ KR g off (off + 25) w w' := by
  have hrc : ∀ j v, (arr rcs)[j]? = some v → w.cell? ⟨5, 0 + j, none⟩ = some v := by
    intro j v hv
    have hj : j < rcs.length := by
      have := (List.getElem?_eq_some_iff.1 hv).1
      rwa [arr_length] at this
    rw [Nat.zero_add, hT.rc j hj, ← hv, arr_get rcs j hj]; rfl
  have hi24 : (Tryz.prog.info? 176).map (·.size) = some (arr rcs).length := by rw [arr_length]; exact size24
  have INV := fun k (hk : k ≤ 24) => permK_inv hb h25 k hk
  have HINV := Lib.hid INV
  have HH := Lib.hid h; have HT := Lib.hid hT; have HN := Lib.hid hn; have HRC := Lib.hid hrc; have HI := Lib.hid hi24
  clear h hb h25 hT hn hrc hi24 INV
  obtain ⟨cs, hcs⟩ : ∃ cs, cs = arr rcs := ⟨_, rfl⟩
  rw [← hcs] at HRC HI
  have HCS := Lib.hid hcs; clear hcs
  go_enter Tryz.func114, Tryz.ntmps114
  go_wp2_with (first | (refine wpList_load_at rfl 176 _ rfl 5 0 rfl cs _ HRC.out Tryz.underlying176 rfl HI.out ?_))
  go_loopw [3, 4, 5, 7] (fun _ _ _ i W => ∃ k : Nat, k ≤ 24 ∧ i = .int .i64 k ∧ Lanes W g off (permK s k) ∧ KR g off (off + 25) w W) (fun _ _ _ i _ => 24 - (intOf i).toNat)
  case atStart => exact ⟨0, by omega, rfl, HH.out, KR.refl _ _ _ _⟩
  case round =>
    obtain ⟨k, hk, rfl, hm, hkw⟩ := hrel
    by_cases hlt : k < 24
    · obtain ⟨hl, hb⟩ := HINV.out k hk
      have hc := rcs_lt k
      have hsucc := permK_succ s k hlt
      have hv : cs.toArray[k]? = some (.int .u64 (rcs.getD k 0 : Nat)) := by
        rw [HCS.out]; simpa [ln] using arr_get rcs k hlt
      obtain ⟨c, hce⟩ : ∃ c, c = rcs.getD k 0 := ⟨_, rfl⟩
      rw [← hce] at hc hsucc hv
      obtain ⟨t, hte⟩ : ∃ t, t = permK s k := ⟨_, rfl⟩
      rw [← hte] at hl hb hsucc hm
      have hT1 := HT.out.keptNe hkw.kept HN.out
      have hgg := Nat.lt_of_lt_of_le hg hkw.kept.size
      have hml := mixS_length t
      have hmb := mixS_lt hb
      have hcl := movK_length (mixS t) 25
      have hcb := movK_lt hmb 25
      have m0 : (k : Int) < 24 := by omega
      have HS := Lib.hid hsucc; have HV := Lib.hid hv; have HM := Lib.hid hm; have HKW := Lib.hid hkw; have HB := Lib.hid hb; have HMB := Lib.hid hmb; have HCB := Lib.hid hcb; have HT1 := Lib.hid hT1
      clear hsucc hv hm hkw hb hmb hcb hT1 hce hte
      have HI2 := Lib.hid size25
      go_wp2_with (first | (refine wpList_index_agg rfl 176 _ _ rfl 45 24 cs.toArray k _ .u64 _ rfl rfl Tryz.underlying176 Tryz.underlying45 rfl rfl hlt HV.out ?_))
      refine (mixColumns_any wr g off t hl HB.out HM.out hgg).mono ?_
      rintro e w1 ⟨rfl, hm1, kr1⟩
      have hT2 := HT1.out.keptNe kr1.kept HN.out
      have hg1 := Nat.lt_of_lt_of_le hgg kr1.kept.size
      have HK1 := Lib.hid (HKW.out.trans kr1 (Nat.le_refl _) (Nat.le_refl _) (Nat.le_refl _) (Nat.le_refl _))
      have HM1 := Lib.hid hm1; have HT2 := Lib.hid hT2
      clear hm1 hT2 kr1 HKW HM HT1
      go_wp2_with fail
      refine (moved_any w1 g off (mixS t) hml HMB.out HM1.out hg1 HT2.out).mono ?_
      rintro e w2 ⟨rfl, hk2⟩
      obtain ⟨m, hme⟩ : ∃ m, m = mixS t := ⟨_, rfl⟩
      rw [← hme] at hml hcl HMB HCB HM1 
      rw [← hme]
      have HME := Lib.hid hme; clear hme
      change (movS m).length = 25 at hcl
      have HCB' : Hid (∀ x ∈ movS m, x < 2 ^ 64) := HCB
      clear HCB
      obtain ⟨b, hbe⟩ : ∃ b, b = movS m := ⟨_, rfl⟩
      rw [← hbe] at HCB' hcl
      rw [← hbe]
      obtain ⟨bs, hbs⟩ : ∃ bs, bs = arr b := ⟨_, rfl⟩
      have hbl : bs.length = 25 := by rw [hbs, arr_length, hcl]
      have hbz : (Tryz.prog.info? 119).map (·.size) = some bs.length := by rw [hbl]; exact size25
      have hb1 : ∀ v ∈ bs, v.oneCell' = true := by rw [hbs]; exact arr_one b
      rw [← hbs]
      have ZL := lanes_new w2 (arr (List.replicate 25 0)).toArray 119 (List.replicate 25 0) rfl
      have z1 : ∀ j, j < bs.length → ((w2.alloc (.cells (arr (List.replicate 25 0)).toArray 119)).cell? ⟨w2.heap.size, 0 + j, none⟩).isSome = true := fun j hj => by
        rw [hbl] at hj; rw [ZL.cell j (by simpa using hj)]; rfl
      have z2 : ∀ j, j < bs.length → (w2.alloc (.cells (arr (List.replicate 25 0)).toArray 119)).frozen? ⟨w2.heap.size, 0 + j, none⟩ = false := fun j hj => by
        rw [hbl] at hj; exact ZL.free j (by simpa using hj)
      have hfin := ZL.setCells (t := b) (by simp [hcl])
      have ka : Kept (fun _ => False) w1 (w2.alloc (.cells (arr (List.replicate 25 0)).toArray 119)) := hk2.then (Kept.alloc _ _ _)
      have kb := ka.trans (Kept.setCells w2.heap.size (arr b) 0 _) (T := fun _ => False) (fun _ _ h => h) (fun i hi e => by have := hk2.size; omega)
      have hm3 := HM1.out.kept kb hg1 (fun h => h)
      have k3 := HK1.out.trans (KR.ofKept (g := g) (lo := off) (hi := off + 25) kb hg1) (Nat.le_refl _) (Nat.le_refl _) (Nat.le_refl _) (Nat.le_refl _)
      have hgb : g < w2.heap.size := Nat.lt_of_lt_of_le hg1 hk2.size
      rw [← hbs] at hfin hm3 k3
      have Z1 := Lib.hid z1; have Z2 := Lib.hid z2; have HF := Lib.hid hfin; have HM3 := Lib.hid hm3; have HK3 := Lib.hid k3; have HB1 := Lib.hid hb1; have HBZ := Lib.hid hbz
      have HBS := Lib.hid hbs; have HBE := Lib.hid hbe
      clear z1 z2 hfin hm3 k3 hb1 hbz ka kb hk2 ZL HM1 HK1 HT2 hbs hbe
      go_wp2_with (first | (refine wpList_store_at rfl 119 _ _ rfl w2.heap.size 0 bs rfl rfl Z1.out Z2.out HB1.out HBZ.out ?_))
      go_loopw [5] (fun y W => ∃ j : Nat, j ≤ 5 ∧ y = .int .i64 ((5 * j : Nat) : Int) ∧ Lanes W g off (chiK b m j) ∧ Lanes W w2.heap.size 0 b ∧ KR g off (off + 25) w W ∧ w2.heap.size < W.heap.size) (fun y _ => 25 - (intOf y).toNat)
      case atStart =>
        refine ⟨0, by omega, rfl, ?_, HF.out, HK3.out, ?_⟩
        · rw [chiK_zero]; exact HM3.out
        · refine Nat.lt_of_lt_of_le ?_ (Kept.setCells w2.heap.size bs 0 _).size
          simp
      case round =>
        obtain ⟨j, hj, rfl, hz, hbL, hkj, hsz⟩ := hrel
        clear Z1 Z2 HF HM3 HK3 HB1 HBZ
        have hgj := Nat.lt_of_lt_of_le hg hkj.kept.size
        obtain ⟨y, hy⟩ : ∃ y, y = 5 * j := ⟨_, rfl⟩
        rw [← hy]
        by_cases hjl : j < 5
        · have hrow := hbL.row hcl j hjl
          have hsub := hz.part (5 * j) (((chiK b m j).drop (5 * j)).take 5) (fun i hi => by
            have h1 := chiK_length b m j hml (by omega)
            simp [h1] at hi
            refine ⟨by omega, ?_⟩
            simp [List.getD, List.getElem?_drop, show i < 5 by omega])
          have hsl : (((chiK b m j).drop (5 * j)).take 5).length = 5 := by simp [chiK_length b m j hml (by omega)]; omega
          generalize ((chiK b m j).drop (5 * j)).take 5 = sub at hsub hsl
          rw [Nat.zero_add] at hrow
          obtain ⟨y5, hy5⟩ : ∃ y5, y5 = y + 5 := ⟨_, rfl⟩
          rw [← hy] at hsub hrow
          have n5 : IntKind.i64.wrap ((y : Int) + 5) = (y5 : Int) := by rw [IntWalk.i64_in _ (by omega)]; omega
          have y1 : (0 : Int) ≤ y := by omega
          have y2 : (y : Int) < 25 := by omega
          have y3 : (y5 : Int) ≤ 25 := by omega
          have y4 : (y : Int) ≤ y5 := by omega
          have y6 : y5 - y = 5 := by omega
          have y7 : ¬ 25 = y := by omega
          have hsd : w2.heap.size < wr.drew.heap.size := hsz
          have HSUB := Lib.hid hsub.drew; have HROW := Lib.hid hrow.drew; have HZ := Lib.hid hz.drew; have HBL := Lib.hid hbL.drew; have HKJ := Lib.hid hkj.drew
          have HY := Lib.hid hy; have HY5 := Lib.hid hy5
          clear hsub hrow hz hbL hkj hy hy5
          go_wp2_with fail
          go_still_tail 10, (by kernel_rfl)
          change wpList _ _ _ _ _ wr.drew
          generalize wr.drew = wd at *
          go_wp2_with fail
          refine (mixRow_any wd g (off + y) (25 - y) w2.heap.size y (25 - y) sub _ _ _ _ _ hsl HSUB.out HROW.out (by omega) hsd (ln_lt HCB'.out _) (ln_lt HCB'.out _) (ln_lt HCB'.out _) (ln_lt HCB'.out _) (ln_lt HCB'.out _)).mono ?_
          rintro e w4 ⟨rfl, hr4, kr4⟩
          have hr4' : Lanes w4 g (off + 5 * j) (chiR b j) := by have := hr4; rw [HY.out] at this; exact this
          have hz4 : Lanes w4 g off (chiK b m (j + 1)) := chiK_step hml hjl HZ.out hr4' (by have := kr4; rw [HY.out] at this; exact this)
          have hb4 := HBL.out.kept kr4.kept hsd (show ¬ w2.heap.size = g by omega)
          have hk4 := HKJ.out.trans kr4 (Nat.le_refl _) (Nat.le_refl _) (by omega) (by have := HY.out; omega)
          have hs4 := Nat.lt_of_lt_of_le hsd kr4.kept.size
          have HZ4 := Lib.hid hz4; have HB4 := Lib.hid hb4; have HK4 := Lib.hid hk4
          clear hr4 kr4 hr4' hz4 hb4 hk4 HSUB HROW HZ HBL HKJ
          go_wp2_with fail
          go_roundw
          case rel =>
            have e5 : y5 = 5 * (j + 1) := by have := HY.out; have := HY5.out; omega
            subst e5
            first
              | exact ⟨j + 1, by omega, rfl, HZ4.out, HB4.out, HK4.out, hs4⟩
              | ((repeat apply Exists.intro); exact ⟨⟨j + 1, by omega, rfl, HZ4.out, HB4.out, HK4.out, hs4⟩, rfl⟩)
          case measure => have := HY5.out; simp [intOf]; omega
        · obtain rfl : j = 5 := by omega
          obtain rfl : y = 25 := hy
          rw [chiK_five b m hml] at hz
          have hc0 := hz.cell 0 (by rw [chiS_length]; omega)
          have hf0 := hz.free 0 (by rw [chiS_length]; omega)
          rw [Nat.add_zero] at hc0 hf0
          obtain ⟨v, hve⟩ : ∃ v, v = (chiS b).getD 0 0 := ⟨_, rfl⟩
          have hvl : v < 2 ^ 64 := by rw [hve]; exact ln_lt (chiS_lt HCB'.out) 0
          rw [← hve] at hc0
          have hx := xor64 v c (v ^^^ c) hvl hc rfl
          have hset := hz.drew.set 0 (v ^^^ c) (by rw [chiS_length]; omega)
          rw [Nat.add_zero] at hset
          have hfin : (chiS b).set 0 (v ^^^ c) = permK s (k + 1) := by
            rw [HS.out, hve]; unfold rndS; rw [← HME.out, ← HBE.out]; rfl
          rw [hfin] at hset
          have hkr := hkj.drew.trans (KR.setCell g off off (off + 25) wr.drew (.int .u64 ((v ^^^ c : Nat) : Int)) (by omega)) (Nat.le_refl _) (Nat.le_refl _) (Nat.le_refl _) (Nat.le_refl _)
          have HSET := Lib.hid hset; have HKR := Lib.hid hkr
          clear hset hfin hkr hz hbL hkj hve
          obtain ⟨z, hzz⟩ : ∃ z, z = v ^^^ c := ⟨_, rfl⟩
          rw [← hzz] at hx HSET HKR
          clear hzz
          go_wp2_with fail
          go_still_tail 8, (by kernel_rfl)
          change wpList _ _ _ _ _ wr.drew
          replace hc0 : wr.drew.cell? _ = _ := hc0
          replace hf0 : wr.drew.frozen? _ = _ := hf0
          generalize wr.drew = wd at *
          go_wp2_with fail
          go_roundw
          case rel =>
            first
              | exact ⟨k + 1, by omega, by go_num, HSET.out, HKR.out⟩
              | ((repeat apply Exists.intro); exact ⟨⟨k + 1, by omega, by go_num, HSET.out, HKR.out⟩, rfl⟩)
          case measure => simp [intOf]; omega
    · obtain rfl : k = 24 := by omega
      have HM := Lib.hid hm; have HK := Lib.hid hkw
      clear hm hkw
      go_wp2_with fail
      go_end0
      exact ⟨rfl, HM.out, HK.out⟩
end Go.Proofs.YtjglnpijngdpkaaGreatDoor
/-
  The plain mathematics of CRC-32C on numbers: the step, its linearity, four steps by a table, products of polynomials, what checksums of joined bytes are.
-/
namespace Go.Proofs.YtjglnpijngdpkaaGreatDoor
def stp (c : Nat) : Nat := if c % 2 = 1 then (c / 2) ^^^ 0x82F63B78 else c / 2
def sts : Nat → Nat → Nat
  | 0, c => c
  | n + 1, c => sts n (stp c)

theorem stp_zero : stp 0 = 0 := rfl
theorem sts_zero (n : Nat) : sts n 0 = 0 := by
  induction n with
  | zero => rfl
  | succ n ih => exact ih

theorem stp_xor (a b : Nat) : stp (a ^^^ b) = stp a ^^^ stp b := by
  unfold stp
  have h := @Nat.xor_mod_two_eq_one a b
  have hd := @Nat.xor_div_two a b
  by_cases ha : a % 2 = 1 <;> by_cases hb : b % 2 = 1
  · rw [if_neg (by rw [h]; simp [ha, hb]), if_pos ha, if_pos hb, hd]
    rw [show a / 2 ^^^ 2197175160 ^^^ (b / 2 ^^^ 2197175160) = a / 2 ^^^ b / 2 ^^^ (2197175160 ^^^ 2197175160) by ac_rfl, Nat.xor_self, Nat.xor_zero]
  · rw [if_pos (by rw [h]; simp [ha, hb]), if_pos ha, if_neg hb, hd]
    ac_rfl
  · rw [if_pos (by rw [h]; simp [ha, hb]), if_neg ha, if_pos hb, hd]
    ac_rfl
  · rw [if_neg (by rw [h]; simp [ha, hb]), if_neg ha, if_neg hb, hd]

theorem sts_xor (n a b : Nat) : sts n (a ^^^ b) = sts n a ^^^ sts n b := by
  induction n generalizing a b with
  | zero => rfl
  | succ n ih => rw [sts, stp_xor, ih]; rfl

theorem sts_add (n m c : Nat) : sts (n + m) c = sts m (sts n c) := by
  induction n generalizing c with
  | zero => rw [Nat.zero_add]; rfl
  | succ n ih => rw [Nat.succ_add, sts, ih]; rfl

theorem sts_stp (n c : Nat) : sts n (stp c) = stp (sts n c) := by
  rw [show sts n (stp c) = sts (1 + n) c by rw [sts_add]; rfl, Nat.add_comm, sts_add]; rfl

theorem stp_lt {c : Nat} (h : c < 2 ^ 32) : stp c < 2 ^ 32 := by
  unfold stp
  split
  · exact Nat.xor_lt_two_pow (by omega) (by omega)
  · omega
theorem sts_lt {n c : Nat} (h : c < 2 ^ 32) : sts n c < 2 ^ 32 := by
  induction n generalizing c with
  | zero => exact h
  | succ n ih => exact ih (stp_lt h)

/-- The table of four steps. -/
def tab4 (r : Nat) : Nat := [0x00000000, 0x105EC76F, 0x20BD8EDE, 0x30E349B1, 0x417B1DBC, 0x5125DAD3, 0x61C69362, 0x7198540D, 0x82F63B78, 0x92A8FC17, 0xA24BB5A6, 0xB21572C9, 0xC38D26C4, 0xD3D3E1AB, 0xE330A81A, 0xF36E6F75].getD r 0

theorem join_xor (q r : Nat) (h : r < 16) : 16 * q + r = (16 * q) ^^^ r := by
  apply Nat.eq_of_testBit_eq
  intro i
  rw [Nat.testBit_xor, show 16 * q + r = 2 ^ 4 * q + r by omega, Nat.testBit_two_pow_mul_add _ (by omega), show 16 * q = 2 ^ 4 * q by omega, Nat.testBit_two_pow_mul]
  by_cases hi : i < 4
  · rw [if_pos hi, show decide (i ≥ 4) = false by simp; omega, Bool.false_and, Bool.false_xor]
  · have : r.testBit i = false := Nat.testBit_lt_two_pow (Nat.lt_of_lt_of_le h (by
      have : 2 ^ 4 ≤ 2 ^ i := Nat.pow_le_pow_right (by omega) (by omega)
      omega))
    simp [hi, this]
    omega

theorem stp_even (m : Nat) : stp (2 * m) = m := by unfold stp; rw [if_neg (by omega)]; omega

theorem four_steps (c : Nat) : sts 4 c = (c / 16) ^^^ tab4 (c % 16) := by
  have h : c = 16 * (c / 16) + c % 16 := by omega
  have hr : c % 16 < 16 := by omega
  generalize c / 16 = q at h
  generalize c % 16 = r at h hr
  subst h
  have h1 : sts 4 (16 * q) = q := by
    show stp (stp (stp (stp (16 * q)))) = q
    rw [show 16 * q = 2 * (2 * (2 * (2 * q))) by omega, stp_even, stp_even, stp_even, stp_even]
  rw [join_xor q r hr, sts_xor, h1]
  congr 1
  have : ∀ r, r < 16 → sts 4 r = tab4 r := by decide
  exact this r hr

theorem tab4_lt (r : Nat) : tab4 r < 2 ^ 32 := by
  by_cases h : r < 16
  · have : ∀ r, r < 16 → tab4 r < 2 ^ 32 := by decide
    exact this r h
  · unfold tab4; rw [List.getD_eq_getElem?_getD, List.getElem?_eq_none (by simp; omega)]; simp

/-- A byte is taken in. -/
def tkn (c b : Nat) : Nat := sts 8 (c ^^^ b)
def upd (c : Nat) (l : List Nat) : Nat := l.foldl tkn c
/-- All 32 bits. -/
def ones : Nat := 0xFFFFFFFF
def crcU (c : Nat) (l : List Nat) : Nat := ones ^^^ upd (ones ^^^ c) l
def crcS (l : List Nat) : Nat := crcU 0 l

theorem eight_steps (c b : Nat) : tkn c b = (((c ^^^ b) / 16 ^^^ tab4 ((c ^^^ b) % 16)) / 16) ^^^ tab4 (((c ^^^ b) / 16 ^^^ tab4 ((c ^^^ b) % 16)) % 16) := by
  unfold tkn
  rw [show 8 = 4 + 4 by rfl, sts_add, four_steps (c ^^^ b), four_steps]

theorem upd_nil (c : Nat) : upd c [] = c := rfl
theorem upd_cons (c b : Nat) (l : List Nat) : upd c (b :: l) = upd (tkn c b) l := rfl
theorem upd_append (c : Nat) (l m : List Nat) : upd c (l ++ m) = upd (upd c l) m := by unfold upd; rw [List.foldl_append]
theorem upd_snoc (c b : Nat) (l : List Nat) : upd c (l ++ [b]) = tkn (upd c l) b := by rw [upd_append]; rfl

theorem tkn_lt {c b : Nat} (hc : c < 2 ^ 32) (hb : b < 256) : tkn c b < 2 ^ 32 := sts_lt (Nat.xor_lt_two_pow hc (by omega))
theorem upd_lt {c : Nat} {l : List Nat} (hc : c < 2 ^ 32) (hl : ∀ x ∈ l, x < 256) : upd c l < 2 ^ 32 := by
  induction l generalizing c with
  | nil => exact hc
  | cons b l ih => exact ih (tkn_lt hc (hl b (by simp))) fun x hx => hl x (by simp [hx])
theorem ones_lt : ones < 2 ^ 32 := by decide
theorem crcU_lt {c : Nat} {l : List Nat} (hc : c < 2 ^ 32) (hl : ∀ x ∈ l, x < 256) : crcU c l < 2 ^ 32 :=
  Nat.xor_lt_two_pow ones_lt (upd_lt (Nat.xor_lt_two_pow ones_lt hc) hl)

theorem ones_ones (c : Nat) : ones ^^^ (ones ^^^ c) = c := by rw [← Nat.xor_assoc, Nat.xor_self, Nat.zero_xor]

/-- The checksum of what follows. -/
theorem crcU_append (c : Nat) (l m : List Nat) : crcU (crcU c l) m = crcU c (l ++ m) := by
  unfold crcU
  rw [ones_ones, upd_append]
theorem crcU_nil (c : Nat) : crcU c [] = c := by unfold crcU; rw [upd_nil, ones_ones]

/-- What taking in bytes makes of a sum. -/
theorem upd_xor (a b : Nat) (l : List Nat) : upd (a ^^^ b) l = sts (8 * l.length) a ^^^ upd b l := by
  induction l generalizing a b with
  | nil => rfl
  | cons x l ih =>
    rw [upd_cons, upd_cons, List.length_cons, Nat.mul_add, Nat.mul_one, Nat.add_comm, sts_add, ← ih]
    unfold tkn
    rw [Nat.xor_assoc, sts_xor]

/-- The checksum of a concatenation. -/
theorem crc_join (l m : List Nat) : crcS (l ++ m) = sts (8 * m.length) (crcS l) ^^^ crcS m := by
  unfold crcS crcU
  rw [Nat.xor_zero, upd_append]
  rw [show upd ones l = (ones ^^^ upd ones l) ^^^ ones by rw [Nat.xor_comm, ones_ones], upd_xor]
  rw [show ones ^^^ (ones ^^^ upd ones l ^^^ ones) = ones ^^^ upd ones l by rw [Nat.xor_comm (ones ^^^ upd ones l), ones_ones]]
  ac_rfl

/-- Three of one length, by exclusive or. -/
def xor3 : List Nat → List Nat → List Nat → List Nat
  | a :: l, b :: m, c :: n => (a ^^^ b ^^^ c) :: xor3 l m n
  | _, _, _ => []
theorem upd_lin (a b c : Nat) (l m n : List Nat) (h1 : l.length = m.length) (h2 : m.length = n.length) : upd (a ^^^ b ^^^ c) (xor3 l m n) = upd a l ^^^ upd b m ^^^ upd c n := by
  induction l generalizing a b c m n with
  | nil =>
    obtain rfl : m = [] := List.eq_nil_of_length_eq_zero (by simp at h1; omega)
    obtain rfl : n = [] := List.eq_nil_of_length_eq_zero (by simp at h2; omega)
    rfl
  | cons x l ih =>
    match m, n, h1, h2 with
    | y :: m, z :: n, h1, h2 =>
      simp only [List.length_cons, Nat.add_right_cancel_iff] at h1 h2
      rw [xor3, upd_cons, upd_cons, upd_cons, upd_cons, ← ih _ _ _ m n h1 h2]
      congr 1
      unfold tkn
      rw [← sts_xor, ← sts_xor]
      congr 1
      ac_rfl
theorem crc_lin (l m n : List Nat) (h1 : l.length = m.length) (h2 : m.length = n.length) : crcS (xor3 l m n) = crcS l ^^^ crcS m ^^^ crcS n := by
  unfold crcS crcU
  rw [Nat.xor_zero]
  have h := upd_lin ones ones ones l m n h1 h2
  rw [Nat.xor_self, Nat.zero_xor] at h
  rw [h, show ones ^^^ upd ones l ^^^ (ones ^^^ upd ones m) ^^^ (ones ^^^ upd ones n) = ones ^^^ (ones ^^^ (ones ^^^ (upd ones l ^^^ upd ones m ^^^ upd ones n))) by ac_rfl, ones_ones]

/-- A product of polynomials, as the program reckons it: n terms. -/
def prd : Nat → Nat → Nat → Nat
  | 0, _, _ => 0
  | n + 1, f, g => (if f.testBit 31 then g else 0) ^^^ prd n (f * 2 % 2 ^ 32) (stp g)

theorem prd_zero (n g : Nat) : prd n 0 g = 0 := by
  induction n generalizing g with
  | zero => rfl
  | succ n ih => rw [prd, Nat.zero_mul, Nat.zero_mod, ih]; simp

theorem prd_sts (n k f g : Nat) : prd n f (sts k g) = sts k (prd n f g) := by
  induction n generalizing f g with
  | zero => rw [prd, prd, sts_zero]
  | succ n ih =>
    rw [prd, prd, ← sts_stp, ih, sts_xor]
    split
    · rfl
    · rw [sts_zero]

theorem stp_pow (i : Nat) : stp (2 ^ (i + 1)) = 2 ^ i := by rw [Nat.pow_succ, Nat.mul_comm, stp_even]

theorem prd_one_aux (n : Nat) : ∀ f, f < 2 ^ 32 → n ≤ 31 → prd (n + 1) f (2 ^ n) = f / 2 ^ (31 - n) := by
  induction n with
  | zero =>
    intro f hf _
    rw [prd, prd, Nat.xor_zero]
    have : f.testBit 31 = decide (f / 2 ^ 31 = 1) := by
      rw [Nat.testBit_eq_decide_div_mod_eq]
      congr 1
      rw [Nat.mod_eq_of_lt (by omega)]
    rw [this]
    simp only [decide_eq_true_eq]
    split <;> omega
  | succ n ih =>
    intro f hf hn
    rw [prd, stp_pow, ih _ (by omega) (by omega)]
    apply Nat.eq_of_testBit_eq
    intro j
    have e : f * 2 = 2 ^ 1 * f := by omega
    rw [Nat.testBit_xor, Nat.testBit_div_two_pow, Nat.testBit_div_two_pow, Nat.testBit_mod_two_pow, e, Nat.testBit_two_pow_mul]
    by_cases h31 : j + (31 - (n + 1)) = 31
    · have hj : n + 1 = j := by omega
      rw [show decide (j + (31 - n) < 32) = false by simp; omega, Bool.false_and, Bool.xor_false, h31]
      split
      · rename_i h; rw [h, Nat.testBit_two_pow]; simp [hj]
      · rename_i h; simp at h; rw [h]; simp
    · have h0 : (if f.testBit 31 = true then 2 ^ (n + 1) else 0).testBit j = false := by
        split
        · rw [Nat.testBit_two_pow]; simp; omega
        · simp
      rw [h0, Bool.false_xor]
      by_cases hb : j + (31 - n) < 32
      · rw [show decide (j + (31 - n) < 32) = true by simp; omega, show decide (j + (31 - n) ≥ 1) = true by simp; omega, Bool.true_and, Bool.true_and]
        congr 1; omega
      · rw [show decide (j + (31 - n) < 32) = false by simp; omega, Bool.false_and]
        symm
        exact Nat.testBit_lt_two_pow (Nat.lt_of_lt_of_le hf (Nat.pow_le_pow_right (by omega) (by omega)))

theorem prd_one {f : Nat} (hf : f < 2 ^ 32) : prd 32 f (2 ^ 31) = f := by
  rw [prd_one_aux 31 f hf (by omega)]; simp

/-- A product by a power is so many steps. -/
theorem prd_pow {f : Nat} (hf : f < 2 ^ 32) (k : Nat) : prd 32 f (sts k (2 ^ 31)) = sts k f := by rw [prd_sts, prd_one hf]

theorem prd_lt {n f g : Nat} (hg : g < 2 ^ 32) : prd n f g < 2 ^ 32 := by
  induction n generalizing f g with
  | zero => show 0 < 2 ^ 32; decide
  | succ n ih =>
    rw [prd]
    refine Nat.xor_lt_two_pow ?_ (ih (stp_lt hg))
    split
    · exact hg
    · decide

theorem eighth_pow : (2 ^ 31 / 256 : Nat) = sts 8 (2 ^ 31) := by decide

/-- Combination, as it is said. -/
def cmb (a b n : Nat) : Nat := sts (8 * n) a ^^^ b
theorem cmb_assoc (x y z n m : Nat) : cmb (cmb x y n) z m = cmb x (cmb y z m) (n + m) := by
  unfold cmb
  rw [sts_xor, Nat.mul_add, sts_add, Nat.xor_assoc]
theorem cmb_crc (l m : List Nat) : cmb (crcS l) (crcS m) m.length = crcS (l ++ m) := (crc_join l m).symm
/-- Four bytes of a number, the lowest first; and the number that they stand for. -/
def le4 (n : Nat) : List Nat := [n % 256, n / 256 % 256, n / 65536 % 256, n / 16777216 % 256]
def de4 (b : List Nat) : Nat := b.getD 0 0 + 256 * b.getD 1 0 + 65536 * b.getD 2 0 + 16777216 * b.getD 3 0

theorem le4_length (n : Nat) : (le4 n).length = 4 := rfl
theorem le4_byte (n : Nat) : ∀ x ∈ le4 n, x < 256 := by
  intro x hx
  simp [le4] at hx
  omega
theorem de4_le4 {n : Nat} (h : n < 2 ^ 32) (t : List Nat) : de4 (le4 n ++ t) = n := by
  simp [de4, le4]; omega
theorem de4_lt {b : List Nat} (h : ∀ x ∈ b, x < 256) : de4 b < 2 ^ 32 := by
  have hg : ∀ i, b.getD i 0 < 256 := fun i => by
    by_cases hi : i < b.length
    · rw [List.getD_eq_getElem?_getD, List.getElem?_eq_getElem hi]; exact h _ (List.getElem_mem hi)
    · rw [List.getD_eq_getElem?_getD, List.getElem?_eq_none (by omega)]; simp
  have h0 := hg 0; have h1 := hg 1; have h2 := hg 2; have h3 := hg 3
  unfold de4; omega
theorem le4_de4 {b : List Nat} (h : ∀ x ∈ b, x < 256) (hl : 4 ≤ b.length) : le4 (de4 b) = b.take 4 := by
  match b, hl with
  | a :: c :: d :: e :: t, _ =>
    have h0 := h a (by simp); have h1 := h c (by simp); have h2 := h d (by simp); have h3 := h e (by simp)
    simp [de4, le4]; omega

def frameS (p : List Nat) : List Nat := le4 p.length ++ (le4 (crcU (crcS (le4 p.length)) p) ++ p)
theorem frameS_length (p : List Nat) : (frameS p).length = 8 + p.length := by simp [frameS, le4]; omega

/-- The length of the frame at the beginning of b; 0: there is none. -/
def nextS (b : List Nat) : Nat :=
  if b.length < 8 then 0 else if 9000 < de4 b ∨ b.length - 8 < de4 b then 0 else
  if de4 (b.drop 4) ≠ crcU (crcS (b.take 4)) ((b.drop 8).take (de4 b)) then 0 else 8 + de4 b

theorem frameS_byte {p : List Nat} (hp : ∀ x ∈ p, x < 256) : ∀ x ∈ frameS p, x < 256 := by
  intro x hx
  simp only [frameS, List.mem_append] at hx
  rcases hx with hx | hx | hx
  · exact le4_byte _ x hx
  · exact le4_byte _ x hx
  · exact hp x hx

theorem nextS_frame {p : List Nat} (hp : ∀ x ∈ p, x < 256) (hl : p.length ≤ 9000) (t : List Nat) : nextS (frameS p ++ t) = 8 + p.length := by
  have e1 : de4 (frameS p ++ t) = p.length := by rw [frameS, List.append_assoc, de4_le4 (by omega)]
  have hc : crcU (crcS (le4 p.length)) p < 2 ^ 32 := crcU_lt (crcU_lt (by omega) (le4_byte _)) hp
  have e2 : (frameS p ++ t).drop 4 = le4 (crcU (crcS (le4 p.length)) p) ++ (p ++ t) := by rw [frameS, List.append_assoc, List.drop_append_of_le_length (by simp [le4]), List.append_assoc]; rfl
  have e3 : (frameS p ++ t).take 4 = le4 p.length := by rw [frameS, List.append_assoc, List.take_append_of_le_length (by simp [le4])]; rfl
  have e4 : ((frameS p ++ t).drop 8).take p.length = p := by
    rw [frameS, ← List.append_assoc, List.append_assoc, List.drop_append_of_le_length (by simp [le4])]
    rw [show (le4 p.length ++ le4 (crcU (crcS (le4 p.length)) p)).drop 8 = [] from rfl, List.nil_append, List.take_left']
    rfl
  unfold nextS
  rw [if_neg (by simp [frameS_length]; omega), e1, if_neg (by simp [frameS_length]; omega), e2, e3, e4, de4_le4 hc, if_neg (by simp)]

theorem nextS_cut {p : List Nat} (hl : p.length ≤ 9000) {m : Nat} (hm : m < 8 + p.length) : nextS ((frameS p).take m) = 0 := by
  unfold nextS
  by_cases h : m < 8
  · rw [if_pos (by simp [frameS_length]; omega)]
  · have e1 : de4 ((frameS p).take m) = p.length := by
      have : (frameS p).take m = le4 p.length ++ ((le4 (crcU (crcS (le4 p.length)) p) ++ p).take (m - 4)) := by
        rw [frameS, List.take_append, List.take_of_length_le (by rw [le4_length]; omega), le4_length]
      rw [this, de4_le4 (by omega)]
    rw [if_neg (by simp [frameS_length]; omega), e1, if_pos (by simp [frameS_length]; omega)]

theorem nextS_le (b : List Nat) : nextS b ≤ b.length := by
  unfold nextS
  split
  · omega
  · split
    · omega
    · split
      · omega
      · omega
theorem nextS_8 (b : List Nat) (h : nextS b ≠ 0) : 8 ≤ nextS b ∧ nextS b = 8 + de4 b := by
  unfold nextS at h ⊢
  split at h
  · omega
  · split at h
    · omega
    · split at h
      · omega
      · rename_i h1 h2 h3
        rw [if_neg h1, if_neg h2, if_neg h3]; omega

/-- A frame that is found is the frame of its payload. -/
theorem nextS_is {b : List Nat} (hb : ∀ x ∈ b, x < 256) (h : nextS b ≠ 0) : b.take (nextS b) = frameS ((b.drop 8).take (de4 b)) := by
  have h8 := nextS_8 b h
  have hle := nextS_le b
  unfold nextS at h
  split at h
  · omega
  · split at h
    · omega
    · split at h
      · omega
      · rename_i h1 h2 h3
        simp only [ne_eq, Decidable.not_not] at h3
        have hd : ∀ x ∈ b.drop 4, x < 256 := fun x hx => hb x (List.mem_of_mem_drop hx)
        have hlen : ((b.drop 8).take (de4 b)).length = de4 b := by simp; omega
        rw [frameS, hlen, le4_de4 hb (by omega), ← h3, le4_de4 hd (by simp; omega), h8.2]
        rw [show 8 + de4 b = 4 + (4 + de4 b) by omega, List.take_add, List.take_add (l := b.drop 4), List.drop_drop]

/-- The lengths of the frames at the beginning. -/
def scanS : Nat → List Nat → List Nat
  | 0, _ => []
  | n + 1, b => if nextS b = 0 then [] else nextS b :: scanS n (b.drop (nextS b))

end Go.Proofs.YtjglnpijngdpkaaGreatDoor
/-
  arbac/crc: Update, Sum; the reference's step, Take: each returns what the plain mathematics says.
-/
namespace Go.Proofs.YtjglnpijngdpkaaGreatDoor
open Go.RowKit

theorem ret_int {k : IntKind} {a b : Int} (h : a = b) : Ending.returned (.int k a) = .returned (.int k b) := by rw [h]

theorem and15 (c : Nat) (hc : c < 2 ^ 32) : bits .and .u32 (c : Int) 15 = ((c % 16 : Nat) : Int) := by
  rw [show (15 : Int) = ((15 : Nat) : Int) from rfl, u32_and_nat _ _ (by omega) (by omega)]
  congr 1
  exact Nat.and_two_pow_sub_one_eq_mod c 4
theorem and1 (c : Nat) (hc : c < 2 ^ 32) : bits .and .u32 (c : Int) 1 = ((c % 2 : Nat) : Int) := by
  rw [show (1 : Int) = ((1 : Nat) : Int) from rfl, u32_and_nat _ _ (by omega) (by omega)]
  congr 1
  exact Nat.and_two_pow_sub_one_eq_mod c 1
theorem xor32 (a b y : Nat) (ha : a < 2 ^ 32) (hb : b < 2 ^ 32) (h : y = a ^^^ b) : bits .xor .u32 (a : Int) (b : Int) = (y : Int) := by
  rw [u32_xor_nat _ _ (by omega) (by omega), h]

theorem neg32 (c : Nat) (hc : c < 2 ^ 32) : bits .xor .u32 IntKind.u32.max (c : Int) = ((ones ^^^ c : Nat) : Int) :=
  u32_xor_nat 4294967295 c (by omega) (by omega)

theorem getD_byte {xs : List Nat} (h : ∀ x ∈ xs, x < 256) (i : Nat) : xs.getD i 0 < 256 := by
  by_cases hi : i < xs.length
  · rw [List.getD_eq_getElem?_getD, List.getElem?_eq_getElem hi]; exact h _ (List.getElem_mem hi)
  · rw [List.getD_eq_getElem?_getD, List.getElem?_eq_none (by omega)]; simp
theorem take_snoc (xs : List Nat) (k : Nat) (h : k < xs.length) : xs.take (k + 1) = xs.take k ++ [xs.getD k 0] := by
  rw [List.take_succ_eq_append_getElem h]; simp [List.getD, h]

/-- A slice that reads as bytes has a form. -/
theorem Reads.form {w : World} {p : Value} {xs : List Nat} (hp : Reads w p xs) : ∃ a c, p = .slice a xs.length c := by
  rcases hp with ⟨rfl, rfl⟩ | ⟨g, off, cap, rfl, _⟩
  · exact ⟨_, _, rfl⟩
  · exact ⟨_, _, rfl⟩
/-- The cell of a byte. -/
theorem Reads.at {w : World} {a : Option Addr} {n c k : Nat} {xs : List Nat} (hp : Reads w (.slice a n c) xs) (hk : k < xs.length) :
    ∃ g off, a = some ⟨g, off, none⟩ ∧ xs.length ≤ maxLen ∧ w.cell? ⟨g, off + k, none⟩ = some (.int .u8 (xs.getD k 0 : Nat)) := by
  rcases hp with ⟨h, rfl⟩ | ⟨g, off, cap, h, h1, h2, _, h3⟩
  · simp at hk
  · cases h; exact ⟨g, off, rfl, by omega, h3 k hk⟩
theorem Reads.le {w : World} {v : Value} {xs : List Nat} (hp : Reads w v xs) : xs.length ≤ maxLen := by
  rcases hp with ⟨h, rfl⟩ | ⟨g, off, cap, h, h1, h2, _, h3⟩
  · simp
  · omega

end Go.Proofs.YtjglnpijngdpkaaGreatDoor
