/-
  arbac/keccak: words in memory; mixRow.
-/
import Derived.Test.YtdmnanocmpkhjaaDoorCore
import Derived.Test.YtdmnanocmpkhjaaDoorRows
import Derived.Test.YtdmnanocmpkhjaaDoorKecM
import Derived.Outline
import Derived.WalkLawsBesides
import Derived.WalkSpells
import Derived.BigQuiet
import Derived.IntWalk
import Derived.Laws.BitsAllLaws
import Derived.Deep.LoopGhost
import Derived.StillTailTactics
namespace Go.Proofs.YtdmnanocmpkhjaaDoor
open Go.RowKit

/-- But for the cells lo .. hi-1 of block g, w' holds what w held, and maybe more blocks. -/
structure KR (g lo hi : Nat) (w w' : World) : Prop where
  kept : Kept (fun k => k = g) w w'
  out : ∀ i, ¬ (lo ≤ i ∧ i < hi) → w'.cell? ⟨g, i, none⟩ = w.cell? ⟨g, i, none⟩
  frozen : ∀ i, w'.frozen? ⟨g, i, none⟩ = w.frozen? ⟨g, i, none⟩

theorem KR.refl (g lo hi : Nat) (w : World) : KR g lo hi w w := ⟨Kept.refl _ _, fun _ _ => rfl, fun _ => rfl⟩
theorem KR.trans {g lo hi l1 h1 l2 h2 : Nat} {a b c : World} (h : KR g l1 h1 a b) (k : KR g l2 h2 b c) (hl1 : lo ≤ l1) (hh1 : h1 ≤ hi) (hl2 : lo ≤ l2) (hh2 : h2 ≤ hi) : KR g lo hi a c :=
  ⟨h.kept.trans k.kept (fun _ _ h => h) (fun _ _ h => h), fun i hi => (k.out i (by omega)).trans (h.out i (by omega)), fun i => (k.frozen i).trans (h.frozen i)⟩
theorem KR.drew {g lo hi : Nat} {a b : World} (h : KR g lo hi a b) : KR g lo hi a b.drew := ⟨h.kept.drew, h.out, h.frozen⟩
theorem KR.drewN {g lo hi : Nat} {a b : World} (h : KR g lo hi a b) (n : Nat) : KR g lo hi a (b.drewN n) := ⟨h.kept.drewN n, h.out, h.frozen⟩
theorem KR.ofKept {g lo hi : Nat} {a b : World} (h : Kept (fun _ => False) a b) (hg : g < a.heap.size) : KR g lo hi a b :=
  ⟨h.mono (fun _ _ h => h.elim), fun i _ => h.cell (p := ⟨g, i, none⟩) hg (fun h => h), fun i => h.frozen (p := ⟨g, i, none⟩) hg (fun h => h)⟩
theorem KR.setCell (g i lo hi : Nat) (w : World) (u : Value) (h : lo ≤ i ∧ i < hi) : KR g lo hi w (w.setCell ⟨g, i, none⟩ u) := by
  refine ⟨Kept.setCell _ _ _ _ rfl, fun j hj => ?_, fun j => ?_⟩
  · exact World.cell?_setCell_other _ _ _ _ (fun e => by injection e; omega)
  · exact World.frozen?_setCell _ _ _ _

/-- Words that lie in memory, and may be written. -/
structure Lanes (w : World) (g off : Nat) (s : List Nat) : Prop where
  cell : ∀ i, i < s.length → w.cell? ⟨g, off + i, none⟩ = some (.int .u64 (s.getD i 0 : Nat))
  free : ∀ i, i < s.length → w.frozen? ⟨g, off + i, none⟩ = false

theorem xor64 (a b y : Nat) (ha : a < 2 ^ 64) (hb : b < 2 ^ 64) (h : y = a ^^^ b) : bits .xor .u64 (a : Int) (b : Int) = (y : Int) := by
  rw [u64_xor_nat _ _ (by omega) (by omega), h]
theorem and64 (a b y : Nat) (ha : a < 2 ^ 64) (hb : b < 2 ^ 64) (h : y = a &&& b) : bits .and .u64 (a : Int) (b : Int) = (y : Int) := by
  rw [u64_and_nat _ _ (by omega) (by omega), h]
def all1 : Nat := 0xFFFFFFFFFFFFFFFF
theorem neg64 (c y : Nat) (hc : c < 2 ^ 64) (h : y = all1 ^^^ c) : bits .xor .u64 IntKind.u64.max (c : Int) = (y : Int) := by
  rw [h]; exact u64_xor_nat 18446744073709551615 c (by omega) (by omega)
theorem all1_lt : all1 < 2 ^ 64 := by decide
/-- One word of a row behind step 3. -/
def chi1 (a b c : Nat) : Nat := a ^^^ ((all1 ^^^ b) &&& c)
theorem chi1_lt {a b c : Nat} (ha : a < 2 ^ 64) (hc : c < 2 ^ 64) : chi1 a b c < 2 ^ 64 := Nat.xor_lt_two_pow ha (Nat.and_lt_two_pow _ hc)
theorem chi_walk (a b c : Nat) (ha : a < 2 ^ 64) (hb : b < 2 ^ 64) (hc : c < 2 ^ 64) :
    ∃ n m : Nat, bits .xor .u64 IntKind.u64.max (b : Int) = (n : Int) ∧ bits .and .u64 (n : Int) (c : Int) = (m : Int) ∧ bits .xor .u64 (a : Int) (m : Int) = ((chi1 a b c : Nat) : Int) :=
  ⟨_, _, neg64 b _ hb rfl, and64 _ c _ (Nat.xor_lt_two_pow all1_lt hb) hc rfl, xor64 a _ _ ha (Nat.and_lt_two_pow _ hc) rfl⟩

theorem Lanes.set {w : World} {g off : Nat} {s : List Nat} (h : Lanes w g off s) (i y : Nat) (hi : i < s.length) : Lanes (w.setCell ⟨g, off + i, none⟩ (.int .u64 (y : Int))) g off (s.set i y) := by
  refine ⟨fun j hj => ?_, fun j hj => ?_⟩
  · rw [List.length_set] at hj
    by_cases e : i = j
    · subst e
      rw [World.cell?_setCell_same _ _ _ (h.cell i hi)]
      simp [List.getD, hi]
    · rw [World.cell?_setCell_other _ _ _ _ (fun e2 => by injection e2; omega), h.cell j hj]
      simp [List.getD, e]
  · rw [World.frozen?_setCell]; rw [List.length_set] at hj; exact h.free j hj
theorem Lanes.kr {w w' : World} {g off g' lo hi : Nat} {s : List Nat} (h : Lanes w g off s) (hk : KR g' lo hi w w') (hlt : g < w.heap.size) (hd : g ≠ g' ∨ hi ≤ off ∨ off + s.length ≤ lo) : Lanes w' g off s := by
  by_cases e : g = g'
  · subst e
    refine ⟨fun j hj => (hk.out _ (by omega)).trans (h.cell j hj), fun j hj => (hk.frozen _).trans (h.free j hj)⟩
  · exact ⟨fun j hj => (hk.kept.cell (p := ⟨g, off + j, none⟩) hlt e).trans (h.cell j hj), fun j hj => (hk.kept.frozen (p := ⟨g, off + j, none⟩) hlt e).trans (h.free j hj)⟩
theorem Lanes.kept {S : Nat → Prop} {w w' : World} {g off : Nat} {s : List Nat} (h : Lanes w g off s) (hk : Kept S w w') (hlt : g < w.heap.size) (hn : ¬ S g) : Lanes w' g off s :=
  ⟨fun j hj => (hk.cell (p := ⟨g, off + j, none⟩) hlt hn).trans (h.cell j hj), fun j hj => (hk.frozen (p := ⟨g, off + j, none⟩) hlt hn).trans (h.free j hj)⟩
theorem Lanes.drew {w : World} {g off : Nat} {s : List Nat} (h : Lanes w g off s) : Lanes w.drew g off s := ⟨h.cell, h.free⟩

/-- What mixRow has before it. -/
structure MixAt (w W : World) (ga oa gb ob : Nat) (zs bs : List Nat) : Prop where
  a : Lanes W ga oa zs
  b : Lanes W gb ob bs
  la : zs.length = 5
  ne : ga ≠ gb
  lt : gb < W.heap.size
  k : KR ga oa (oa + 5) w W
theorem MixAt.drew {w W : World} {ga oa gb ob : Nat} {zs bs : List Nat} (h : MixAt w W ga oa gb ob zs bs) : MixAt w W.drew ga oa gb ob zs bs := ⟨h.a.drew, h.b.drew, h.la, h.ne, h.lt, h.k.drew⟩
theorem MixAt.set {w W : World} {ga oa gb ob : Nat} {zs bs : List Nat} (h : MixAt w W ga oa gb ob zs bs) (i y : Nat) (hi : i < 5) : MixAt w (W.setCell ⟨ga, oa + i, none⟩ (.int .u64 (y : Int))) ga oa gb ob (zs.set i y) bs := by
  have hk := KR.setCell ga (oa + i) oa (oa + 5) W (.int .u64 (y : Int)) (by omega)
  exact ⟨h.a.set i y (by rw [h.la]; exact hi), h.b.kr hk h.lt (Or.inl (Ne.symm h.ne)), by rw [List.length_set]; exact h.la, h.ne, Nat.lt_of_lt_of_le h.lt hk.kept.size, h.k.trans hk (Nat.le_refl _) (Nat.le_refl _) (Nat.le_refl _) (Nat.le_refl _)⟩

set_option maxRecDepth 100000 in
set_option maxHeartbeats 800000 in
theorem mixRow_any (w : World) (ga oa ca gb ob cb : Nat) (xs : List Nat) (b0 b1 b2 b3 b4 : Nat) (hx : xs.length = 5) (ha : Lanes w ga oa xs) (hb : Lanes w gb ob [b0, b1, b2, b3, b4]) (hg : ga ≠ gb) (hlt : gb < w.heap.size)
    (l0 : b0 < 2 ^ 64) (l1 : b1 < 2 ^ 64) (l2 : b2 < 2 ^ 64) (l3 : b3 < 2 ^ 64) (l4 : b4 < 2 ^ 64) :
    Calls Tryd.prog 19 #[.slice (some ⟨ga, oa, none⟩) 5 ca, .slice (some ⟨gb, ob, none⟩) 5 cb] w fun e w' => e = .returned (.tuple #[]) ∧
      Lanes w' ga oa [chi1 b0 b1 b2, chi1 b1 b2 b3, chi1 b2 b3 b4, chi1 b3 b4 b0, chi1 b4 b0 b1] ∧ KR ga oa (oa + 5) w w' := by
  obtain ⟨n0, m0, e0, f0, r0⟩ := chi_walk b0 b1 b2 l0 l1 l2
  obtain ⟨n1, m1, e1, f1, r1⟩ := chi_walk b1 b2 b3 l1 l2 l3
  obtain ⟨n2, m2, e2, f2, r2⟩ := chi_walk b2 b3 b4 l2 l3 l4
  obtain ⟨n3, m3, e3, f3, r3⟩ := chi_walk b3 b4 b0 l3 l4 l0
  obtain ⟨n4, m4, e4, f4, r4⟩ := chi_walk b4 b0 b1 l4 l0 l1
  generalize chi1 b0 b1 b2 = y0 at *
  generalize chi1 b1 b2 b3 = y1 at *
  generalize chi1 b2 b3 b4 = y2 at *
  generalize chi1 b3 b4 b0 = y3 at *
  generalize chi1 b4 b0 b1 = y4 at *
  obtain ⟨x0, x1, x2, x3, x4, rfl⟩ : ∃ x0 x1 x2 x3 x4, xs = [x0, x1, x2, x3, x4] := by
    match xs, hx with
    | [x0, x1, x2, x3, x4], _ => exact ⟨_, _, _, _, _, rfl⟩
  have M0 : MixAt w w ga oa gb ob [x0, x1, x2, x3, x4] [b0, b1, b2, b3, b4] := ⟨ha, hb, hx, hg, hlt, KR.refl _ _ _ _⟩
  clear ha hb l0 l1 l2 l3 l4 hx hlt
  go_enter Tryd.func19, Tryd.ntmps19
  go_wp2_with fail
  have N0 := Lib.hid M0.drew
  have c0 := M0.b.cell 0 (by simp)
  have c1 := M0.b.cell 1 (by simp)
  have c2 := M0.b.cell 2 (by simp)
  have d := M0.a.cell 0 (by simp)
  have f := M0.a.free 0 (by simp)
  simp at c0 c1 c2 d f
  clear M0
  go_still_tail 14, (by kernel_rfl)
  change wpList _ _ _ _ _ w.drew
  replace c0 : w.drew.cell? _ = _ := c0
  replace c1 : w.drew.cell? _ = _ := c1
  replace c2 : w.drew.cell? _ = _ := c2
  replace d : w.drew.cell? _ = _ := d
  replace f : w.drew.frozen? _ = _ := f
  generalize w.drew = v0 at *
  go_wp2_with fail
  have M1 : MixAt w (v0.setCell ⟨ga, oa, none⟩ (.int .u64 (y0 : Int))) ga oa gb ob [y0, x1, x2, x3, x4] [b0, b1, b2, b3, b4] := N0.out.set 0 y0 (by omega)
  clear N0 c0 c1 c2 d f
  generalize v0.setCell ⟨ga, oa, none⟩ (.int .u64 (y0 : Int)) = w1 at *
  have N1 := Lib.hid M1.drew
  have c1 := M1.b.cell 1 (by simp)
  have c2 := M1.b.cell 2 (by simp)
  have c3 := M1.b.cell 3 (by simp)
  have d := M1.a.cell 1 (by simp)
  have f := M1.a.free 1 (by simp)
  simp at c1 c2 c3 d f
  clear M1
  go_still_tail 14, (by kernel_rfl)
  change wpList _ _ _ _ _ w1.drew
  replace c1 : w1.drew.cell? _ = _ := c1
  replace c2 : w1.drew.cell? _ = _ := c2
  replace c3 : w1.drew.cell? _ = _ := c3
  replace d : w1.drew.cell? _ = _ := d
  replace f : w1.drew.frozen? _ = _ := f
  generalize w1.drew = v1 at *
  go_wp2_with fail
  have M2 : MixAt w (v1.setCell ⟨ga, oa + 1, none⟩ (.int .u64 (y1 : Int))) ga oa gb ob [y0, y1, x2, x3, x4] [b0, b1, b2, b3, b4] := N1.out.set 1 y1 (by omega)
  clear N1 c1 c2 c3 d f
  generalize v1.setCell ⟨ga, oa + 1, none⟩ (.int .u64 (y1 : Int)) = w2 at *
  have N2 := Lib.hid M2.drew
  have c2 := M2.b.cell 2 (by simp)
  have c3 := M2.b.cell 3 (by simp)
  have c4 := M2.b.cell 4 (by simp)
  have d := M2.a.cell 2 (by simp)
  have f := M2.a.free 2 (by simp)
  simp at c2 c3 c4 d f
  clear M2
  go_still_tail 14, (by kernel_rfl)
  change wpList _ _ _ _ _ w2.drew
  replace c2 : w2.drew.cell? _ = _ := c2
  replace c3 : w2.drew.cell? _ = _ := c3
  replace c4 : w2.drew.cell? _ = _ := c4
  replace d : w2.drew.cell? _ = _ := d
  replace f : w2.drew.frozen? _ = _ := f
  generalize w2.drew = v2 at *
  go_wp2_with fail
  have M3 : MixAt w (v2.setCell ⟨ga, oa + 2, none⟩ (.int .u64 (y2 : Int))) ga oa gb ob [y0, y1, y2, x3, x4] [b0, b1, b2, b3, b4] := N2.out.set 2 y2 (by omega)
  clear N2 c2 c3 c4 d f
  generalize v2.setCell ⟨ga, oa + 2, none⟩ (.int .u64 (y2 : Int)) = w3 at *
  have N3 := Lib.hid M3.drew
  have c0 := M3.b.cell 0 (by simp)
  have c3 := M3.b.cell 3 (by simp)
  have c4 := M3.b.cell 4 (by simp)
  have d := M3.a.cell 3 (by simp)
  have f := M3.a.free 3 (by simp)
  simp at c0 c3 c4 d f
  clear M3
  go_still_tail 14, (by kernel_rfl)
  change wpList _ _ _ _ _ w3.drew
  replace c0 : w3.drew.cell? _ = _ := c0
  replace c3 : w3.drew.cell? _ = _ := c3
  replace c4 : w3.drew.cell? _ = _ := c4
  replace d : w3.drew.cell? _ = _ := d
  replace f : w3.drew.frozen? _ = _ := f
  generalize w3.drew = v3 at *
  go_wp2_with fail
  have M4 : MixAt w (v3.setCell ⟨ga, oa + 3, none⟩ (.int .u64 (y3 : Int))) ga oa gb ob [y0, y1, y2, y3, x4] [b0, b1, b2, b3, b4] := N3.out.set 3 y3 (by omega)
  clear N3 c0 c3 c4 d f
  generalize v3.setCell ⟨ga, oa + 3, none⟩ (.int .u64 (y3 : Int)) = w4 at *
  have N4 := Lib.hid M4.drew
  have c0 := M4.b.cell 0 (by simp)
  have c1 := M4.b.cell 1 (by simp)
  have c4 := M4.b.cell 4 (by simp)
  have d := M4.a.cell 4 (by simp)
  have f := M4.a.free 4 (by simp)
  simp at c0 c1 c4 d f
  clear M4
  go_still_tail 14, (by kernel_rfl)
  change wpList _ _ _ _ _ w4.drew
  replace c0 : w4.drew.cell? _ = _ := c0
  replace c1 : w4.drew.cell? _ = _ := c1
  replace c4 : w4.drew.cell? _ = _ := c4
  replace d : w4.drew.cell? _ = _ := d
  replace f : w4.drew.frozen? _ = _ := f
  generalize w4.drew = v4 at *
  go_wp2_with fail
  have M5 : MixAt w (v4.setCell ⟨ga, oa + 4, none⟩ (.int .u64 (y4 : Int))) ga oa gb ob [y0, y1, y2, y3, y4] [b0, b1, b2, b3, b4] := N4.out.set 4 y4 (by omega)
  clear N4 c0 c1 c4 d f
  generalize v4.setCell ⟨ga, oa + 4, none⟩ (.int .u64 (y4 : Int)) = w5 at *
  have M6 := Lib.hid M5
  clear M5
  go_end0
  exact ⟨rfl, M6.out.a, M6.out.k⟩
end Go.Proofs.YtdmnanocmpkhjaaDoor
