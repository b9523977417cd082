/-
  arbac/keccak: absorb, id.
-/
import Derived.Test.YtdmnanocmpkhjaaDoorKecR
namespace Go.Proofs.YtdmnanocmpkhjaaDoor
open Go.RowKit

/-- Bytes that lie in memory, and may be written. -/
structure Blk (w : World) (g off : Nat) (xs : List Nat) : Prop where
  cell : ∀ i, i < xs.length → w.cell? ⟨g, off + i, none⟩ = some (.int .u8 (xs.getD i 0 : Nat))
  free : ∀ i, i < xs.length → w.frozen? ⟨g, off + i, none⟩ = false
theorem Blk.kr {w w' : World} {g off g' lo hi : Nat} {s : List Nat} (h : Blk w g off s) (hk : KR g' lo hi w w') (hlt : g < w.heap.size) (hd : g ≠ g' ∨ hi ≤ off ∨ off + s.length ≤ lo) : Blk w' g off s := by
  by_cases e : g = g'
  · subst e
    refine ⟨fun j hj => (hk.out _ (by omega)).trans (h.cell j hj), fun j hj => (hk.frozen _).trans (h.free j hj)⟩
  · exact ⟨fun j hj => (hk.kept.cell (p := ⟨g, off + j, none⟩) hlt e).trans (h.cell j hj), fun j hj => (hk.kept.frozen (p := ⟨g, off + j, none⟩) hlt e).trans (h.free j hj)⟩
theorem Blk.kept {S : Nat → Prop} {w w' : World} {g off : Nat} {s : List Nat} (h : Blk w g off s) (hk : Kept S w w') (hlt : g < w.heap.size) (hn : ¬ S g) : Blk w' g off s :=
  ⟨fun j hj => (hk.cell (p := ⟨g, off + j, none⟩) hlt hn).trans (h.cell j hj), fun j hj => (hk.frozen (p := ⟨g, off + j, none⟩) hlt hn).trans (h.free j hj)⟩
theorem Blk.drew {w : World} {g off : Nat} {s : List Nat} (h : Blk w g off s) : Blk w.drew g off s := ⟨h.cell, h.free⟩
theorem Blk.drewN {w : World} {g off : Nat} {s : List Nat} (h : Blk w g off s) (n : Nat) : Blk (w.drewN n) g off s := ⟨h.cell, h.free⟩
theorem Lanes.drewN {w : World} {g off : Nat} {s : List Nat} (h : Lanes w g off s) (n : Nat) : Lanes (w.drewN n) g off s := ⟨h.cell, h.free⟩

/-- How far the bytes of a block have come into the state. -/
def inB (s : List Nat) (i x : Nat) : List Nat := s.set (i / 8) (ln s (i / 8) ^^^ (x * 2 ^ (8 * (i % 8))))
def absK (s blk : List Nat) (k : Nat) : List Nat := (List.range k).foldl (fun s i => inB s i (blk.getD i 0)) s
def absS (s blk : List Nat) : List Nat := permS (absK s blk 136)
theorem absK_length (s blk : List Nat) (k : Nat) : (absK s blk k).length = s.length := by
  induction k with
  | zero => rfl
  | succ k ih => unfold absK at *; rw [List.range_succ, List.foldl_append, List.foldl_cons, List.foldl_nil, inB, List.length_set]; exact ih
theorem absK_succ (s blk : List Nat) (k : Nat) : absK s blk (k + 1) = inB (absK s blk k) k (blk.getD k 0) := by
  unfold absK
  rw [List.range_succ, List.foldl_append]; rfl
theorem shl_lt {x n : Nat} (hx : x < 256) (hn : n ≤ 56) : x * 2 ^ n < 2 ^ 64 := by
  have h1 : 2 ^ n ≤ 2 ^ 56 := Nat.pow_le_pow_right (by omega) hn
  have h2 : x * 2 ^ n ≤ 255 * 2 ^ 56 := Nat.mul_le_mul (by omega) h1
  exact Nat.lt_of_le_of_lt h2 (by decide)
theorem getD_lt256 {l : List Nat} (h : ∀ x ∈ l, x < 256) (i : Nat) : l.getD i 0 < 256 := by
  by_cases hi : i < l.length
  · rw [List.getD_eq_getElem?_getD, List.getElem?_eq_getElem hi]; exact h _ (List.getElem_mem hi)
  · rw [List.getD_eq_getElem?_getD, List.getElem?_eq_none (by omega)]; simp
theorem absK_lt {s blk : List Nat} (h : ∀ x ∈ s, x < 2 ^ 64) (hb : ∀ x ∈ blk, x < 256) (k : Nat) : ∀ x ∈ absK s blk k, x < 2 ^ 64 := by
  induction k with
  | zero => exact h
  | succ k ih => rw [absK_succ]; exact set_lt ih _ _ (Nat.xor_lt_two_pow (ln_lt ih _) (shl_lt (getD_lt256 hb k) (by omega)))
theorem absS_ok {s blk : List Nat} (h : ∀ x ∈ s, x < 2 ^ 64) (hs : s.length = 25) (hb : ∀ x ∈ blk, x < 256) : (absS s blk).length = 25 ∧ ∀ x ∈ absS s blk, x < 2 ^ 64 :=
  permS_lt (absK_lt h hb 136) ((absK_length _ _ _).trans hs)
theorem shl_walk (x n : Nat) (hx : x < 256) (hn : n ≤ 56) : IntKind.u64.wrap ((x : Int) * 2 ^ n) = ((x * 2 ^ n : Nat) : Int) := by
  rw [IntKind.wrap_u64, ← Nat.mod_eq_of_lt (shl_lt hx hn), Int.natCast_emod, Int.natCast_mul, Int.natCast_pow]
  simp

set_option maxRecDepth 100000 in
set_option maxHeartbeats 1600000 in
theorem absorb_any (w : World) (g off gb ob : Nat) (s blk : List Nat) (h25 : s.length = 25) (hb : ∀ x ∈ s, x < 2 ^ 64) (h : Lanes w g off s) (hg : g < w.heap.size) (hT : KTab w) (hn : NoTab g)
    (hbl : blk.length = 136) (hb8 : ∀ x ∈ blk, x < 256) (hB : Blk w gb ob blk) (hgb : gb < w.heap.size) (hd : gb ≠ g ∨ off + 25 ≤ ob ∨ ob + 136 ≤ off) :
    Calls Tryd.prog 14 #[.pointer (some ⟨g, off, none⟩), .pointer (some ⟨gb, ob, none⟩)] w fun e w' => e = .returned (.tuple #[]) ∧ Lanes w' g off (absS s blk) ∧ KR g off (off + 25) w w' := by
  have HH := Lib.hid h; have HT := Lib.hid hT; have HN := Lib.hid hn; have HB := Lib.hid hB; have HB8 := Lib.hid hb8; have HSB := Lib.hid hb
  have HDJ := Lib.hid hd; have HBL := Lib.hid hbl
  have h25' := Lib.hid h25
  clear h hb hT hn hB hb8 hd hbl h25
  go_enter Tryd.func14, Tryd.ntmps14
  go_wp2_with fail
  go_loopw [4, 5, 7] (fun _ _ i W => ∃ k : Nat, k ≤ 136 ∧ i = .int .i64 k ∧ Lanes W g off (absK s blk k) ∧ KR g off (off + 25) w W) (fun _ _ i _ => 136 - (intOf i).toNat)
  case atStart => exact ⟨0, by omega, rfl, HH.out, KR.refl _ _ _ _⟩
  case round =>
    obtain ⟨k, hk, rfl, hm, hkw⟩ := hrel
    by_cases hlt : k < 136
    · have hb1 := HB.out.kr hkw hgb (by have := HDJ.out; have := HBL.out; omega)
      have e1 := hb1.cell k (by rw [HBL.out]; exact hlt)
      have hx := getD_lt256 HB8.out k
      have hsucc := absK_succ s blk k
      have hml := (absK_length s blk k).trans h25'.out
      have hmlt := absK_lt HSB.out HB8.out k
      obtain ⟨x, hxe⟩ : ∃ x, x = blk.getD k 0 := ⟨_, rfl⟩
      rw [← hxe] at e1 hx hsucc
      obtain ⟨m, hme⟩ : ∃ m, m = absK s blk k := ⟨_, rfl⟩
      rw [← hme] at hsucc hml hmlt hm
      obtain ⟨q, hq⟩ : ∃ q, q = k / 8 := ⟨_, rfl⟩
      obtain ⟨r, hr⟩ : ∃ r, r = k % 8 := ⟨_, rfl⟩
      obtain ⟨n, hnn⟩ : ∃ n, n = 8 * r := ⟨_, rfl⟩
      obtain ⟨z, hz⟩ : ∃ z, z = x * 2 ^ n := ⟨_, rfl⟩
      obtain ⟨v, hv⟩ : ∃ v, v = ln m q := ⟨_, rfl⟩
      obtain ⟨y, hy⟩ : ∃ y, y = v ^^^ z := ⟨_, rfl⟩
      have hvl : v < 2 ^ 64 := by rw [hv]; exact ln_lt hmlt q
      have hzl : z < 2 ^ 64 := by rw [hz]; exact shl_lt hx (by omega)
      have xx := xor64 v z y hvl hzl hy
      have sw : IntKind.u64.wrap ((x : Int) * 2 ^ n) = (z : Int) := by rw [hz]; exact shl_walk x n hx (by omega)
      have q1 : (k : Int).tdiv 8 = (q : Int) := by rw [Int.tdiv_eq_ediv_of_nonneg (by omega)]; omega
      have q2 : (k : Int) / 8 = (q : Int) := by omega
      have r1 : (k : Int).tmod 8 = (r : Int) := by rw [Int.tmod_eq_emod_of_nonneg (by omega)]; omega
      have r2 : (k : Int) % 8 = (r : Int) := by omega
      have n1 : IntKind.i64.wrap ((r : Int) * 8) = (n : Int) := by rw [IntWalk.i64_in _ (by omega)]; omega
      have w1 : IntKind.u64.wrap (x : Int) = (x : Int) := IntWalk.u64_in _ (by omega)
      have w2 : IntKind.i64.wrap (q : Int) = (q : Int) := IntWalk.i64_in _ (by omega)
      have m0 : (k : Int) < 136 := by omega
      have m1 : (0 : Int) ≤ k := by omega
      have m2 : (0 : Int) ≤ q := by omega
      have m3 : (q : Int) < 25 := by omega
      have m4 : (0 : Int) ≤ n := by omega
      have m5 : n < 64 := by omega
      have hset := (hm.drewN 0).set q y (by omega)
      have hfin : m.set q y = absK s blk (k + 1) := by rw [hsucc, inB, ← hq, ← hr, ← hnn, ← hz, ← hv, ← hy]
      rw [hfin] at hset
      have c1 := hm.cell q (by omega)
      have f1 := hm.free q (by omega)
      rw [show m.getD q 0 = v from hv.symm] at c1
      have HF := Lib.hid hfin; have HM := Lib.hid hm; have HK := Lib.hid hkw
      have HQ := Lib.hid hq
      clear hset hfin hsucc hm hkw hb1 hxe hme hq hr hnn hz hv hy hmlt
      go_wp2_with fail
      go_quiet (fail)
      have HM2 := Lib.hid (HM.out.drewN nq)
      have HK2 := Lib.hid (HK.out.drewN nq)
      replace c1 : (wr.drewN nq).cell? _ = _ := c1
      replace f1 : (wr.drewN nq).frozen? _ = _ := f1
      clear HM HK e1
      generalize wr.drewN nq = wd at *
      have hset := HM2.out.drew.set q y (by rw [hml]; omega)
      rw [HF.out] at hset
      have hkr := HK2.out.drew.trans (KR.setCell g (off + q) off (off + 25) wd.drew (.int .u64 (y : Int)) (by omega)) (Nat.le_refl _) (Nat.le_refl _) (Nat.le_refl _) (Nat.le_refl _)
      have HSET := Lib.hid hset; have HKR := Lib.hid hkr
      clear hset hkr HM2 HK2
      go_wp2_with fail
      go_still_tail 15, (by kernel_rfl)
      change wpList _ _ _ _ _ wd.drew
      replace c1 : wd.drew.cell? _ = _ := c1
      replace f1 : wd.drew.frozen? _ = _ := f1
      generalize wd.drew = we at *
      go_wp2_with fail
      go_roundw
      case rel =>
        first
          | exact ⟨k + 1, by omega, by go_num, HSET.out, HKR.out⟩
          | ((repeat apply Exists.intro); exact ⟨⟨k + 1, by omega, by go_num, HSET.out, HKR.out⟩, rfl⟩)
      case measure => simp [intOf]; omega
    · obtain rfl : k = 136 := by omega
      have HM := Lib.hid hm; have HK := Lib.hid hkw
      clear hm hkw
      have hgg := Nat.lt_of_lt_of_le hg HK.out.kept.size
      have hml := (absK_length s blk 136).trans h25'.out
      have HML := Lib.hid (absK_lt HSB.out HB8.out 136)
      have HT1 := Lib.hid (HT.out.keptNe HK.out.kept HN.out)
      go_wp2_with fail
      refine (permute_any wr g off _ hml HML.out HM.out hgg HT1.out HN.out).mono ?_
      rintro e w1 ⟨rfl, hp, kp⟩
      have HP := Lib.hid hp
      have HKP := Lib.hid (HK.out.trans kp (Nat.le_refl _) (Nat.le_refl _) (Nat.le_refl _) (Nat.le_refl _))
      clear hp kp
      go_wp2_with fail
      go_end0
      exact ⟨rfl, HP.out, HKP.out⟩
end Go.Proofs.YtdmnanocmpkhjaaDoor
