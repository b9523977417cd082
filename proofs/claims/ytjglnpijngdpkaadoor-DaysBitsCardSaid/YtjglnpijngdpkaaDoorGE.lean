import Derived.Shelf.Strconv.Itoa0
import Derived.Ground.SlbCloneProg
import Derived.Shelf.Bytes.SlClone
import Derived.Test.YtjglnpijngdpkaaDoorProg
import Derived.Test.YtjglnpijngdpkaaDoorCore
import Derived.Test.YtjglnpijngdpkaaDoorRows
import Derived.Laws.BytesArg
import Derived.Lib.BufferRead
import Derived.Outline
import Derived.WalkLawsBesides
import Derived.WalkSpells
import Derived.IntWalk
import Derived.Test.YtjglnpijngdpkaaDoorGA
import Derived.Shelf.Spec.TrailingZeros
import Derived.Shelf.Lays7
import Derived.Test.YtjglnpijngdpkaaDoorGD
import Derived.BigQuiet
/-
  The library's contracts of math/bits.Len64 and bytes.Clone, laid at this seat's program.
-/
namespace Go.Proofs.YtjglnpijngdpkaaDoor
open Go.Shelf
def lays129_ren : Go.Shelf.Ren := ⟨fun | 129 => 90 | n => n, fun | 53 => 54 | 3 => 3 | 4 => 4 | 46 => 97 | 5 => 5 | 9 => 9 | n => n, fun | n => n⟩
theorem lays129 : Go.Proofs.Lays.n129 Tryd.prog lays129_ren := {
  mixed := by kernel_rfl
  f129 := Tryd.func90.trans (congrArg some (by kernel_rfl))
  t3 := Tryd.underlying3
  a3 := Tryd.isAgg3
  z3 := Tryd.sizeOf3
  v3 := Tryd.zeroValue3
  t4 := Tryd.underlying4
  a4 := Tryd.isAgg4
  z4 := Tryd.sizeOf4
  v4 := Tryd.zeroValue4
  t5 := Tryd.underlying5
  a5 := Tryd.isAgg5
  z5 := Tryd.sizeOf5
  v5 := Tryd.zeroValue5
  t9 := Tryd.underlying9
  a9 := Tryd.isAgg9
  z9 := Tryd.sizeOf9
  v9 := Tryd.zeroValue9
  t46 := Tryd.underlying97
  a46 := Tryd.isAgg97
  z46 := Tryd.sizeOf97
  v46 := Tryd.zeroValue97
  t53 := Tryd.underlying54
  a53 := Tryd.isAgg54
  z53 := Tryd.sizeOf54
  v53 := Tryd.zeroValue54 }
theorem sh_Len64 (x : Int) (w : World) (h0 : 0 ≤ x) (h1 : x ≤ 18446744073709551615) :
    Calls Tryd.prog 90 #[.int .u64 x] w fun e w' => e = .returned (.int .i64 (Lib.bitLen x.toNat)) ∧ w = w' := (Any.bits_Len64 lays129 x w h0 h1).mono fun _ _ h => ⟨h.1, h.2.symm⟩
end Go.Proofs.YtjglnpijngdpkaaDoor
/-
  bytes.Clone over what is read; NewWriter, Out, NewReader; bytes as strings.
-/
namespace Go.Proofs.YtjglnpijngdpkaaDoor
open Go.RowKit

/-- A value that reads as xs, in a row of its own from block B on. -/
structure Fresh (w : World) (B : Nat) (v : Value) (xs : List Nat) : Prop where
  own : w.ownsRow B 5 1 v xs.length (bv xs)
  block : ∀ k, v.ownBlock = some k → B ≤ k

theorem Fresh.reads {w : World} {B : Nat} {v : Value} {xs : List Nat} (h : Fresh w B v xs) : Reads w v xs := Reads.ofOwns h.own

theorem Wr.reads {w : World} {wb : Nat} {v : Value} {B : Nat} {xs : List Nat} (h : Wr w wb v B xs) : Reads w v xs := Reads.ofOwns h.own

theorem reads_str {w : World} {v : Value} {xs : List Nat} (h : Reads w v xs) : (convert 93 9 v).run Tryd.prog w = .ok (.string (strOfNums (xs.map fun n : Nat => (n : Int)))) w := by
  rcases h with ⟨rfl, rfl⟩ | ⟨g, off, cap, rfl, h1, h2, h3, h4⟩
  · exact run_convert_bytes_nil w 93 5 Tryd.underlying93 Tryd.underlying5 0 0 9 Tryd.underlying9
  · refine run_convert_bytes_arg w 93 5 Tryd.underlying93 Tryd.underlying5 g off xs.length cap (xs.map fun n : Nat => (n : Int)) (by simp) (fun i hi => ?_) 9 Tryd.underlying9
    rw [h4 i hi]
    simp [List.getD, hi]

theorem str_inj {xs ys : List Nat} (hx : ∀ b ∈ xs, b < 256) (hy : ∀ b ∈ ys, b < 256) : strOfNums (xs.map fun n : Nat => (n : Int)) = strOfNums (ys.map fun n : Nat => (n : Int)) ↔ xs = ys := by
  refine ⟨fun h => ?_, fun h => by rw [h]⟩
  have h1 := congrArg (fun s : ByteArray => s.data.toList.map UInt8.toNat) h
  simp only [strOfNums_data, List.map_map] at h1
  have key : ∀ zs : List Nat, (∀ b ∈ zs, b < 256) → zs.map (UInt8.toNat ∘ (fun n : Int => UInt8.ofNat n.toNat) ∘ fun n : Nat => (n : Int)) = zs := by
    intro zs hz
    conv => rhs; rw [← List.map_id zs]
    refine List.map_congr_left fun b hb => ?_
    simp [Nat.mod_eq_of_lt (hz b hb)]
  rw [key xs hx, key ys hy] at h1
  exact h1

end Go.Proofs.YtjglnpijngdpkaaDoor
/-
  (bits.Set).Greatest and (bits.Set).Bytes.
-/
namespace Go.Proofs.YtjglnpijngdpkaaDoor
open Go.RowKit

theorem bv_set (xs : List Nat) (i z : Nat) : (bv xs).set i (.int .u8 (z : Int)) = bv (xs.set i z) := by simp [bv]
theorem bv_getD (xs : List Nat) (i : Nat) (h : i < xs.length) : (bv xs)[i]? = some (.int .u8 (xs.getD i 0 : Nat)) := by simp [bv, List.getD, h]
theorem bv_zero (n : Nat) : (madeCells #[Value.int .u8 0] n).toList = bv (List.replicate n 0) := by
  refine List.ext_getElem (by simp [madeCells, bv]) fun i h1 h2 => ?_
  simp [madeCells, bv, Nat.mod_one]
theorem info_u8b : (Tryd.prog.info? 5).map (fun i => (i.zero, i.size, i.bytes)) = some (some (.int .u8 0), 1, 1) := by kernel_rfl

theorem pad_getD (M k m : Nat) : (bl8 M k ++ List.replicate m 0).getD k 0 = 0 := by
  rw [List.getD_eq_getElem?_getD, List.getElem?_append_right (by simp [bl8])]
  simp only [bl8_length, Nat.sub_self, List.getElem?_replicate]
  split <;> rfl

theorem byte_shift (y S b : Nat) (h : b = y / 2 ^ S % 256) : IntKind.u8.wrap ((y : Int) / 2 ^ S) = (b : Int) := by
  rw [IntKind.wrap_u8', h]
  simp

end Go.Proofs.YtjglnpijngdpkaaDoor
/-
  bits: leastIn; the library's contract of math/bits.TrailingZeros64, laid at this seat's program.
-/
namespace Go.Proofs.YtjglnpijngdpkaaDoor
open Go.RowKit Go.Shelf

def laysTz_ren : Go.Shelf.Ren := ⟨fun | 29 => 78 | n => n, fun | 0 => 0 | 3 => 3 | 4 => 4 | 5 => 5 | 22 => 54 | 25 => 97 | 54 => 111 | n => n, fun | 1 => 0 | n => n⟩
theorem laysTz : Go.Proofs.Lays7.n29 Tryd.prog laysTz_ren := {
  mixed := by kernel_rfl
  f29 := Tryd.func78.trans (congrArg some (by kernel_rfl))
  t0 := Tryd.underlying0
  a0 := Tryd.isAgg0
  z0 := Tryd.sizeOf0
  v0 := Tryd.zeroValue0
  i0 := by kernel_rfl
  t3 := Tryd.underlying3
  a3 := Tryd.isAgg3
  z3 := Tryd.sizeOf3
  v3 := Tryd.zeroValue3
  i3 := by kernel_rfl
  t4 := Tryd.underlying4
  a4 := Tryd.isAgg4
  z4 := Tryd.sizeOf4
  v4 := Tryd.zeroValue4
  i4 := by kernel_rfl
  t5 := Tryd.underlying5
  a5 := Tryd.isAgg5
  z5 := Tryd.sizeOf5
  v5 := Tryd.zeroValue5
  i5 := by kernel_rfl
  t22 := Tryd.underlying54
  a22 := Tryd.isAgg54
  z22 := Tryd.sizeOf54
  v22 := Tryd.zeroValue54
  i22 := by kernel_rfl
  t25 := Tryd.underlying97
  a25 := Tryd.isAgg97
  z25 := Tryd.sizeOf97
  v25 := Tryd.zeroValue97
  i25 := by kernel_rfl
  t54 := Tryd.underlying111
  a54 := Tryd.isAgg111
  z54 := Tryd.sizeOf111
  g1 := by kernel_rfl }

/-- The library's table lies where the program lays it. -/
structure Tz (w : World) : Prop where
  lt : 0 < w.heap.size
  tab : Go.Proofs.TabAt 0 Lib.deBruijn64tab w
theorem Tz.kept {S : Nat → Prop} {a b : World} (h : Tz a) (hk : Kept S a b) (hn : ¬ S 0) : Tz b :=
  ⟨Nat.lt_of_lt_of_le h.lt hk.size, fun j hj => (hk.cell (p := ⟨0, j, none⟩) h.lt hn).trans (h.tab j hj)⟩

theorem sh_Tz (x : Nat) (hx : x < 18446744073709551616) (w : World) (hT : Tz w) : Calls Tryd.prog 78 #[.int .u64 x] w fun e w' => e = .returned (.int .i64 (Lib.ctz 64 x)) ∧ w = w' :=
  (Any7.bits_TrailingZeros64 laysTz x hx w (fun _ => hT.tab)).mono fun _ _ h => ⟨h.1, h.2.symm⟩

set_option maxRecDepth 100000 in
theorem leastIn_any (x k : Nat) (hx : x < 18446744073709551616) (hk : k ≤ 1000) (hc : Lib.ctz 64 x ≤ 64) (w : World) (hT : Tz w) :
    Calls Tryd.prog 68 #[.int .u64 x, .int .i64 k] w fun e w' => e = .returned (.int .i64 ((64 * k + Lib.ctz 64 x : Nat) : Int)) ∧ w = w' := by
  have H := Lib.hid (sh_Tz x hx w hT)
  clear hT
  generalize Lib.ctz 64 x = j at H hc ⊢
  go_enter Tryd.func68, Tryd.ntmps68
  go_wp2_with fail
  refine H.out.mono ?_
  rintro e w1 ⟨rfl, rfl⟩
  go_wp2_with fail
  go_ret
  exact ⟨by rw [show ((64 * k + j : Nat) : Int) = (k : Int) * 64 + j by omega]; rfl, rfl⟩
end Go.Proofs.YtjglnpijngdpkaaDoor
/-
  bits.Set.Compare: the least difference of two sets, and the order.
-/
namespace Go.Proofs.YtjglnpijngdpkaaDoor
open Go.RowKit

/-- The least member of one set only. -/
structure LD (M K d : Nat) : Prop where
  ne : M.testBit d ≠ K.testBit d
  eq : ∀ i, i < d → M.testBit i = K.testBit i
theorem LD.uniq {M K d e : Nat} (h : LD M K d) (k : LD M K e) : d = e := by
  rcases Nat.lt_trichotomy d e with h1 | h1 | h1
  · exact absurd (k.eq d h1) h.ne
  · exact h1
  · exact absurd (h.eq e h1) k.ne
theorem wordN_at {M k i : Nat} (hi : i < 64) : (wordN M k).testBit i = M.testBit (64 * k + i) := by
  rw [wordN_bit]; simp [hi, Nat.add_comm]
theorem eq_words {M K N : Nat} (hM : M < 2 ^ (64 * N)) (hK : K < 2 ^ (64 * N)) (h : ∀ j, j < N → wordN M j = wordN K j) : M = K := by
  refine Nat.eq_of_testBit_eq fun i => ?_
  by_cases hi : i < 64 * N
  · have e : i = 64 * (i / 64) + i % 64 := by omega
    rw [e, ← wordN_at (by omega), ← wordN_at (by omega), h _ (by omega)]
  · have h1 : ∀ X, X < 2 ^ (64 * N) → X.testBit i = false := fun X hX => Nat.testBit_lt_two_pow (Nat.lt_of_lt_of_le hX (Nat.pow_le_pow_right (by omega) (by omega)))
    rw [h1 M hM, h1 K hK]
theorem ld_word {M K k : Nat} (hne : wordN M k ^^^ wordN K k ≠ 0) (hbe : ∀ j, j < k → wordN M j = wordN K j) :
    Lib.ctz 64 (wordN M k ^^^ wordN K k) < 64 ∧ LD M K (64 * k + Lib.ctz 64 (wordN M k ^^^ wordN K k)) := by
  have hy : wordN M k ^^^ wordN K k < 2 ^ 64 := Nat.xor_lt_two_pow (wordN_lt M k) (wordN_lt K k)
  have h0 : cutW (wordN M k ^^^ wordN K k) 0 ≠ 0 := by rw [cutW_zero]; exact hne
  have := cutW_low hy h0
  rw [cutW_zero] at this
  obtain ⟨_, h1, h2, h3, _⟩ := this
  generalize Lib.ctz 64 (wordN M k ^^^ wordN K k) = j at h1 h2 h3
  refine ⟨h1, ?_, fun i hi => ?_⟩
  · rw [Nat.testBit_xor, wordN_at h1, wordN_at h1] at h2
    intro e
    rw [e] at h2
    simp at h2
  · by_cases hk : i < 64 * k
    · have e : i = 64 * (i / 64) + i % 64 := by omega
      rw [e, ← wordN_at (by omega), ← wordN_at (by omega), hbe _ (by omega)]
    · have e : i = 64 * k + (i - 64 * k) := by omega
      have h4 := h3 (i - 64 * k) (by omega) (by omega)
      rw [Nat.testBit_xor, wordN_at (by omega), wordN_at (by omega), ← e] at h4
      cases h5 : M.testBit i <;> cases h6 : K.testBit i <;> rw [h5, h6] at h4 <;> simp at h4 ⊢
theorem xor_ne {a b : Nat} (h : a ^^^ b = 0) : a = b := by
  refine Nat.eq_of_testBit_eq fun i => ?_
  have := congrArg (fun n => n.testBit i) h
  simp only [Nat.testBit_xor, Nat.zero_testBit] at this
  cases h5 : a.testBit i <;> cases h6 : b.testBit i <;> rw [h5, h6] at this <;> simp at this ⊢
theorem ld_small {M K d : Nat} (h : LD M K d) (hM : Small M) (hK : Small K) : d ≤ 4095 := by
  rcases Nat.lt_or_ge 4095 d with h1 | h1
  · exfalso
    exact h.ne (by rw [Nat.testBit_lt_two_pow (hM d h1), Nat.testBit_lt_two_pow (hK d h1)])
  · exact h1

end Go.Proofs.YtjglnpijngdpkaaDoor
/-
  slices.Equal of ints and of bytes.
-/
namespace Go.Proofs.YtjglnpijngdpkaaDoor
open Go.RowKit

theorem take_eq_succ' {α : Type} {d : α} {xs ys : List α} {k : Nat} (h : xs.take k = ys.take k) (hx : k < xs.length) (hy : k < ys.length) (he : xs.getD k d = ys.getD k d) : xs.take (k + 1) = ys.take (k + 1) := by
  rw [List.take_succ_eq_append_getElem hx, List.take_succ_eq_append_getElem hy, h]
  simp only [List.getD_eq_getElem?_getD, List.getElem?_eq_getElem hx, List.getElem?_eq_getElem hy, Option.getD_some] at he
  rw [he]
theorem ints_form {w : World} {v : Value} {xs : List Int} (h : Ints w v xs) : ∃ a c, v = .slice a xs.length c ∧ xs.length ≤ maxLen ∧ ∀ i, i < xs.length → ∃ g off, a = some ⟨g, off, none⟩ ∧ g < w.heap.size ∧ w.cell? ⟨g, off + i, none⟩ = some (.int .i64 (xs.getD i 0)) := by
  rcases h with ⟨h, h2⟩ | ⟨g, off, cap, h, h1, h3, h4, h5⟩
  · exact ⟨none, 0, by rw [h, h2]; rfl, by rw [h2]; simp, fun i hi => by rw [h2] at hi; simp at hi⟩
  · exact ⟨_, _, h, by omega, fun i hi => ⟨g, off, rfl, h4, h5 i hi⟩⟩

theorem reads_form {w : World} {v : Value} {xs : List Nat} (h : Reads w v xs) : ∃ a c, v = .slice a xs.length c ∧ xs.length ≤ maxLen ∧ ∀ i, i < xs.length → ∃ g off, a = some ⟨g, off, none⟩ ∧ g < w.heap.size ∧ w.cell? ⟨g, off + i, none⟩ = some (.int .u8 (xs.getD i 0 : Nat)) := by
  rcases h with ⟨h, h2⟩ | ⟨g, off, cap, h, h1, h3, h4, h5⟩
  · exact ⟨none, 0, by rw [h, h2]; rfl, by rw [h2]; simp, fun i hi => by rw [h2] at hi; simp at hi⟩
  · exact ⟨_, _, h, by omega, fun i hi => ⟨g, off, rfl, h4, h5 i hi⟩⟩

set_option maxRecDepth 100000 in
set_option maxHeartbeats 1600000 in
theorem equali_any (w : World) (v u : Value) (xs ys : List Int) (hv : Ints w v xs) (hu : Ints w u ys) :
    Calls Tryd.prog 50 #[v, u] w fun e w' => e = .returned (.bool (decide (xs = ys))) ∧ Kept (fun _ => False) w w' := by
  obtain ⟨a, c, rfl, hm, hx⟩ := ints_form hv
  obtain ⟨a', c', rfl, hm', hy⟩ := ints_form hu
  have HX := Lib.hid hx; have HY := Lib.hid hy
  clear hx hy hv hu
  have hm1 : xs.length ≤ 9223372036854775807 := by unfold maxLen at hm; omega
  obtain ⟨n, hn⟩ : ∃ n, n = xs.length := ⟨_, rfl⟩
  obtain ⟨m, hmm⟩ : ∃ m, m = ys.length := ⟨_, rfl⟩
  rw [← hn, ← hmm]
  by_cases hne : n = m
  · have hyl : ys.length = n := by omega
    subst hne
    clear hmm
    go_enter Tryd.func50, Tryd.ntmps50
    rw [← hn] at hm1
    have HN := Lib.hid hn; have HYL := Lib.hid hyl; clear hn hyl hm hm'
    go_wp2_with fail
    go_loopw [13] (fun iv wr => ∃ k : Nat, k ≤ n ∧ iv = .int .i64 k ∧ Hid (xs.take k = ys.take k) ∧ Kept (fun _ => False) w wr) (fun iv _ => n - (intOf iv).toNat)
    case atStart => exact ⟨0, Nat.zero_le _, rfl, rfl, Kept.refl _ _⟩
    case round =>
      obtain ⟨k, hk, rfl, ht, hkw⟩ := hrel
      by_cases hlt : k < n
      · have hlt' : (k : Int) < (n : Int) := by omega
        have hk0 : (0 : Int) ≤ (k : Int) := by omega
        obtain ⟨g, off, rfl, hg, hc⟩ := HX.out k (by rw [← HN.out]; exact hlt)
        obtain ⟨g', off', rfl, hg', hc'⟩ := HY.out k (by rw [HYL.out]; exact hlt)
        obtain ⟨x, hx⟩ : ∃ x, x = xs.getD k 0 := ⟨_, rfl⟩
        obtain ⟨y, hy⟩ : ∃ y, y = ys.getD k 0 := ⟨_, rfl⟩
        rw [← hx] at hc
        rw [← hy] at hc'
        have c1 := (hkw.cell (p := ⟨g, off + k, none⟩) hg (fun h => h)).trans hc
        have c2 := (hkw.cell (p := ⟨g', off' + k, none⟩) hg' (fun h => h)).trans hc'
        have HX1 := Lib.hid hx; have HY1 := Lib.hid hy; clear hx hy hc hc'
        by_cases hxy : x = y
        · subst hxy
          go_wp2_with fail
          go_quiet (fail)
          go_wp2_with fail
          go_roundw
          case rel => exact ⟨k + 1, by omega, by go_num, take_eq_succ' ht.out (by rw [← HN.out]; exact hlt) (by rw [HYL.out]; exact hlt) (by rw [← HX1.out, ← HY1.out]), hkw.drewN _⟩
          case measure => simp [intOf]; omega
        · have hb : ((x : Int) == (y : Int)) = false := by simp; omega
          go_wp2_with fail
          go_quiet (fail)
          go_wp2_with fail
          go_ret
          refine ⟨?_, hkw.drewN _⟩
          have : decide (xs = ys) = false := by
            simp only [decide_eq_false_iff_not]
            intro e
            exact hxy (by rw [HX1.out, HY1.out, e])
          rw [this]; rfl
      · obtain rfl : k = n := by omega
        go_wp2_with fail
        go_ret
        refine ⟨?_, hkw⟩
        have h := ht.out
        rw [List.take_of_length_le (by rw [← HN.out]; exact Nat.le_refl _), List.take_of_length_le (by rw [HYL.out]; exact Nat.le_refl _)] at h
        rw [show decide (xs = ys) = true by simpa using h]; rfl
  · have hd : decide (xs = ys) = false := by
      simp only [decide_eq_false_iff_not]
      intro e
      exact hne (by rw [hn, hmm, e])
    rw [hd]
    have hb : ((n : Int) == (m : Int)) = false := by simp; omega
    clear hd hn hmm hm1 hm hm'
    go_enter Tryd.func50, Tryd.ntmps50
    go_wp2_with fail
    go_ret
    exact ⟨rfl, Kept.refl _ _⟩


end Go.Proofs.YtjglnpijngdpkaaDoor
/-
  bits.Set.Within, Least; arbacref01.Same.
-/
namespace Go.Proofs.YtjglnpijngdpkaaDoor
open Go.RowKit
set_option linter.unusedVariables false

theorem an_zero {M K n : Nat} (h0 : anN (M % 2 ^ 64) (K % 2 ^ 64) = 0) (hM : M / 2 ^ 64 < 2 ^ (64 * n)) (h : ∀ j, j < n → anN (wordN (M / 2 ^ 64) j) (wordN (K / 2 ^ 64) j) = 0) : anN M K = 0 := by
  have h1 : anN M K % 2 ^ 64 = 0 := by rw [mod_an]; exact h0
  have h2 : anN M K / 2 ^ 64 = 0 := by
    rw [div_an]
    refine eq_words (N := n) (Nat.lt_of_le_of_lt (anN_le _ _) hM) (Nat.pow_pos (by omega)) fun j hj => ?_
    rw [wordN_an, h j hj]
    simp [wordN]
  have := Nat.div_add_mod (anN M K) (2 ^ 64)
  rw [h1, h2] at this
  omega
theorem an_some0 {M K : Nat} (h : anN (M % 2 ^ 64) (K % 2 ^ 64) ≠ 0) : anN M K ≠ 0 := fun e => h (by rw [← mod_an, e])
theorem an_some {M K j : Nat} (h : anN (wordN (M / 2 ^ 64) j) (wordN (K / 2 ^ 64) j) ≠ 0) : anN M K ≠ 0 := fun e => h (by rw [← wordN_an, ← div_an, e]; simp [wordN])

set_option maxRecDepth 100000 in
set_option maxHeartbeats 3200000 in
theorem within_at (w : World) (M K : Nat) (a1 : Option Addr) (c1 : Nat) (hs ks : List Nat) (a2 : Option Addr) (c2 : Nat) (hw : Words w (.slice a1 hs.length c1) hs) (hc : Canon hs (M / 2 ^ 64)) (hl : hs.length ≤ 63)
    (hw2 : Words w (.slice a2 ks.length c2) ks) (hc2 : Canon ks (K / 2 ^ 64)) (hl2 : ks.length ≤ 63) :
    Calls Tryd.prog 41 #[.agg #[.int .u64 (M % 2 ^ 64 : Nat), .slice a1 hs.length c1], .agg #[.int .u64 (K % 2 ^ 64 : Nat), .slice a2 ks.length c2]] w fun e w' => e = .returned (.bool (decide (anN M K = 0))) ∧ Kept (fun _ => False) w w' := by
  have hbig : ks.length < hs.length → anN M K ≠ 0 := fun h e => by
    have h1 : anN (M / 2 ^ 64) (K / 2 ^ 64) = 0 := by rw [← div_an, e]
    have := canon_le hc hc2 (an_sub h1)
    omega
  obtain ⟨n, hn⟩ : ∃ n, n = hs.length := ⟨_, rfl⟩
  obtain ⟨m, hm⟩ : ∃ n, n = ks.length := ⟨_, rfl⟩
  obtain ⟨lo1, hl1⟩ : ∃ l, l = M % 2 ^ 64 := ⟨_, rfl⟩
  obtain ⟨lo2, hl2'⟩ : ∃ l, l = K % 2 ^ 64 := ⟨_, rfl⟩
  obtain ⟨z, hz⟩ : ∃ z, z = anN lo1 lo2 := ⟨_, rfl⟩
  have hl1b : lo1 < 18446744073709551616 := by rw [hl1]; exact Nat.mod_lt _ (by decide)
  have hl2b : lo2 < 18446744073709551616 := by rw [hl2']; exact Nat.mod_lt _ (by decide)
  have hx : bits .andNot .u64 (lo1 : Int) (lo2 : Int) = (z : Int) := by rw [hz]; exact u64_anN _ _ hl1b hl2b
  have hk1 : ∀ i, i < n → ∃ gg off, a1 = some ⟨gg, off, none⟩ ∧ gg < w.heap.size ∧ w.cell? ⟨gg, off + i, none⟩ = some (.int .u64 (wordN (M / 2 ^ 64) i : Nat)) := fun i hi => by
    obtain ⟨a, c, e, _, hcell⟩ := words_form hw
    cases e
    obtain ⟨gg, off, e1, e2, e3⟩ := hcell i (by omega)
    exact ⟨gg, off, e1, e2, by rw [e3, canon_getD hc i (by omega)]⟩
  have hk2 : ∀ i, i < m → ∃ gg off, a2 = some ⟨gg, off, none⟩ ∧ gg < w.heap.size ∧ w.cell? ⟨gg, off + i, none⟩ = some (.int .u64 (wordN (K / 2 ^ 64) i : Nat)) := fun i hi => by
    obtain ⟨a, c, e, _, hcell⟩ := words_form hw2
    cases e
    obtain ⟨gg, off, e1, e2, e3⟩ := hcell i (by omega)
    exact ⟨gg, off, e1, e2, by rw [e3, canon_getD hc2 i (by omega)]⟩
  have hS0 : z ≠ 0 → anN M K ≠ 0 := fun h => an_some0 (by rw [← hl1, ← hl2', ← hz]; exact h)
  have hlt : M / 2 ^ 64 < 2 ^ (64 * n) := by rw [hn]; exact hc.lt
  have hE0 : z = 0 → (∀ j, j < n → anN (wordN (M / 2 ^ 64) j) (wordN (K / 2 ^ 64) j) = 0) → anN M K = 0 := fun h h2 => an_zero (by rw [← hl1, ← hl2', ← hz]; exact h) hlt h2
  rw [← hl1, ← hl2', ← hn, ← hm]
  rw [← hn, ← hm] at hbig
  obtain ⟨wA, hwA⟩ : ∃ wA, wA = (w.alloc (.cells #[.int .u64 lo1, .slice a1 n c1] 57)).alloc (.cells #[.int .u64 lo2, .slice a2 m c2] 57) := ⟨_, rfl⟩
  have hkA : Kept (fun _ => False) w wA := by rw [hwA]; exact (Kept.alloc _ _ _).then (Kept.alloc _ _ _)
  have hbx : ∀ W, Kept (fun _ => False) wA W → W.cell? ⟨w.heap.size, 0, none⟩ = some (.int .u64 (lo1 : Int)) ∧ W.cell? ⟨w.heap.size, 1, none⟩ = some (.slice a1 n c1) ∧ W.cell? ⟨w.heap.size + 1, 0, none⟩ = some (.int .u64 (lo2 : Int)) ∧ W.cell? ⟨w.heap.size + 1, 1, none⟩ = some (.slice a2 m c2) := fun W hk => by
    have hsz : wA.heap.size = w.heap.size + 2 := by rw [hwA]; simp
    refine ⟨(hk.cell (p := ⟨w.heap.size, 0, none⟩) (by simp; omega) (fun h => h)).trans (by rw [hwA]; go_simp), (hk.cell (p := ⟨w.heap.size, 1, none⟩) (by simp; omega) (fun h => h)).trans (by rw [hwA]; go_simp), (hk.cell (p := ⟨w.heap.size + 1, 0, none⟩) (by simp; omega) (fun h => h)).trans (by rw [hwA]; go_simp), (hk.cell (p := ⟨w.heap.size + 1, 1, none⟩) (by simp; omega) (fun h => h)).trans (by rw [hwA]; go_simp)⟩
  have HBX := Lib.hid hbx; have HKA := Lib.hid hkA; have HWA := Lib.hid hwA; have HK1 := Lib.hid hk1; have HK2 := Lib.hid hk2; have HS0 := Lib.hid hS0; have HE0 := Lib.hid hE0; have HBIG := Lib.hid hbig
  clear hbx hkA hwA hk1 hk2 hS0 hE0 hlt hz hl1 hl2' hl1b hl2b hw hw2 hc hc2 hbig
  rw [← hn] at hl
  rw [← hm] at hl2
  clear hn hm
  by_cases hz0 : z = 0
  · have hzb : ((z : Int) != 0) = false := by simp [hz0]
    by_cases hnm : m < n
    · have hnm' : (m : Int) < (n : Int) := by omega
      have HR := Lib.hid (HBIG.out hnm)
      clear hnm
      go_enter Tryd.func41, Tryd.ntmps41
      go_wp2_with fail
      rw [← HWA.out]
      go_ret
      exact ⟨by rw [decide_eq_false HR.out]; rfl, HKA.out⟩
    · have hnm' : ¬ (m : Int) < (n : Int) := by omega
      go_enter Tryd.func41, Tryd.ntmps41
      go_wp2_with fail
      rw [← HWA.out]
      go_loopw [24] (fun iv wr => ∃ k : Nat, k ≤ n ∧ iv = .int .i64 k ∧ (∀ j, j < k → anN (wordN (M / 2 ^ 64) j) (wordN (K / 2 ^ 64) j) = 0) ∧ Hid (Kept (fun _ => False) wA wr)) (fun iv _ => n - (intOf iv).toNat)
      case atStart => exact ⟨0, Nat.zero_le _, rfl, (fun j hj => by omega), Kept.refl _ _⟩
      case round =>
        obtain ⟨k, hk, rfl, hbe, hkr⟩ := hrel
        have HBE := Lib.hid hbe
        clear hbe
        obtain ⟨b0, b1, b2, b3⟩ := HBX.out wr hkr.out
        by_cases hlt : k < n
        · have hkm : k < m := by omega
          obtain ⟨g1, off1, ha1, hg1, hc1⟩ := HK1.out k hlt
          obtain ⟨g2, off2, ha2, hg2, hc2⟩ := HK2.out k hkm
          subst ha1 ha2
          have ck1 := ((HKA.out.then hkr.out).cell (p := ⟨g1, off1 + k, none⟩) hg1 (fun h => h)).trans hc1
          have ck2 := ((HKA.out.then hkr.out).cell (p := ⟨g2, off2 + k, none⟩) hg2 (fun h => h)).trans hc2
          have hand : bits .andNot .u64 (wordN (M / 2 ^ 64) k : Int) (wordN (K / 2 ^ 64) k : Int) = ((anN (wordN (M / 2 ^ 64) k) (wordN (K / 2 ^ 64) k) : Nat) : Int) := u64_anN _ _ (wordN_lt _ _) (wordN_lt _ _)
          have HSOME : Hid (anN (wordN (M / 2 ^ 64) k) (wordN (K / 2 ^ 64) k) ≠ 0 → anN M K ≠ 0) := an_some
          have HX : Hid (anN (wordN (M / 2 ^ 64) k) (wordN (K / 2 ^ 64) k) = 0 → ∀ j, j < k + 1 → anN (wordN (M / 2 ^ 64) j) (wordN (K / 2 ^ 64) j) = 0) := fun h j hj => by
            by_cases hjk : j < k
            · exact HBE.out j hjk
            · have : j = k := by omega
              subst this; exact h
          have hlt1 : (k : Int) < (n : Int) := by omega
          have hlt3 : (k : Int) < (m : Int) := by omega
          have hk0 : (0 : Int) ≤ (k : Int) := by omega
          generalize anN (wordN (M / 2 ^ 64) k) (wordN (K / 2 ^ 64) k) = x at hand HSOME HX
          generalize wordN (M / 2 ^ 64) k = y1 at hand ck1
          generalize wordN (K / 2 ^ 64) k = y2 at hand ck2
          clear hc1 hc2 HBE
          by_cases hx0 : x = 0
          · have hxb : ((x : Int) != 0) = false := by simp [hx0]
            go_wp2_with fail
            go_quiet (fail)
            go_wp2_with fail
            go_roundw
            case rel => exact ⟨k + 1, by omega, by go_num, HX.out hx0, Lib.hid (hkr.out.drewN _)⟩
            case measure => simp [intOf]; omega
          · have hxb : ((x : Int) != 0) = true := by simp; omega
            have HR := Lib.hid (HSOME.out hx0)
            go_wp2_with fail
            go_quiet (fail)
            go_wp2_with fail
            go_ret
            exact ⟨by rw [decide_eq_false HR.out]; rfl, HKA.out.then (hkr.out.drewN _)⟩
        · have hkn : k = n := by omega
          have hx1 : ¬ (k : Int) < (n : Int) := by omega
          have HR := Lib.hid (HE0.out hz0 (fun j hj => HBE.out j (by omega)))
          clear HBE hkn
          go_wp2_with fail
          go_ret
          exact ⟨by rw [decide_eq_true HR.out]; rfl, HKA.out.then hkr.out⟩
  · have hzb : ((z : Int) != 0) = true := by simp; omega
    have HR := Lib.hid (HS0.out hz0)
    go_enter Tryd.func41, Tryd.ntmps41
    go_wp2_with fail
    rw [← HWA.out]
    go_ret
    exact ⟨by rw [decide_eq_false HR.out]; rfl, HKA.out⟩
theorem within_any (w : World) (v u : Value) (M K : Nat) (hv : SetV w v M) (hu : SetV w u K) (hS : Small M) (hS2 : Small K) :
    Calls Tryd.prog 41 #[v, u] w fun e w' => e = .returned (.bool (decide (anN M K = 0))) ∧ Kept (fun _ => False) w w' := by
  obtain ⟨x, hs, rfl, hw, hc, _⟩ := hv.ex
  obtain ⟨y, ks, rfl, hw2, hc2, _⟩ := hu.ex
  obtain ⟨a1, c1, rfl⟩ := hw.form
  obtain ⟨a2, c2, rfl⟩ := hw2.form
  exact within_at w M K a1 c1 hs ks a2 c2 hw hc (hc.small hS) hw2 hc2 (hc2.small hS2)

theorem least_word {M k : Nat} (hne : wordN M k ≠ 0) (hbe : ∀ j, j < k → wordN M j = 0) : Lib.ctz 64 (wordN M k) < 64 ∧ LeastS M (64 * k + Lib.ctz 64 (wordN M k)) := by
  have h0 : ∀ j, wordN 0 j = 0 := fun j => by simp [wordN]
  have h := ld_word (M := M) (K := 0) (k := k) (by rw [h0, Nat.xor_zero]; exact hne) (fun j hj => by rw [h0, hbe j hj])
  rw [h0, Nat.xor_zero] at h
  refine ⟨h.1, ?_, fun i hi => by rw [h.2.eq i hi]; simp⟩
  have := h.2.ne
  rw [Nat.zero_testBit] at this
  simpa using this

set_option maxRecDepth 100000 in
set_option maxHeartbeats 3200000 in
theorem least_at (w : World) (M lo n : Nat) (a : Option Addr) (c : Nat) (hs : List Nat) (hlo : lo = M % 2 ^ 64) (hn : hs.length = n) (hw : Words w (.slice a n c) hs) (hc : Canon hs (M / 2 ^ 64)) (hln : n ≤ 63) (hT : Tz w) :
    Calls Tryd.prog 36 #[.agg #[.int .u64 lo, .slice a n c]] w fun e w' => ((M = 0 ∧ e = .returned (.tuple #[.int .i64 0, .bool false])) ∨ ∃ d : Nat, LeastS M d ∧ e = .returned (.tuple #[.int .i64 d, .bool true])) ∧ Kept (fun _ => False) w w' := by
  have hbM : M < 2 ^ (64 * (1 + n)) := by
    have h1 := hc.lt
    rw [hn] at h1
    rw [show 64 * (1 + n) = 64 * n + 64 by omega, Nat.pow_add]
    exact (Nat.div_lt_iff_lt_mul (Nat.pow_pos (by omega))).1 h1
  have hwd : ∀ k, wd lo hs k = wordN M k := fun k => by rw [hlo]; exact wd_word M hs hc k
  have HZ : Hid ((∀ j, j < 1 + n → wordN M j = 0) → M = 0) := fun h => eq_words hbM (Nat.pow_pos (by omega)) (fun j hj => by rw [h j hj]; simp [wordN])
  obtain ⟨wA, hwA⟩ : ∃ wA, wA = w.alloc (.cells #[.int .u64 lo, .slice a n c] 57) := ⟨_, rfl⟩
  have hkA : Kept (fun _ => False) w wA := by rw [hwA]; exact Kept.alloc _ _ _
  have HBX : Hid (∀ W, Kept (fun _ => False) wA W → W.cell? ⟨w.heap.size, 0, none⟩ = some (.int .u64 (lo : Int)) ∧ W.cell? ⟨w.heap.size, 1, none⟩ = some (.slice a n c)) := fun W hk => by
    have hsz : wA.heap.size = w.heap.size + 1 := by rw [hwA]; simp
    exact ⟨(hk.cell (p := ⟨w.heap.size, 0, none⟩) (by simp; omega) (fun h => h)).trans (by rw [hwA]; go_simp), (hk.cell (p := ⟨w.heap.size, 1, none⟩) (by simp; omega) (fun h => h)).trans (by rw [hwA]; go_simp)⟩
  have HW1 := Lib.hid (fun (k : Nat) (hk : k ≤ 1000) (W : World) (kw : Kept (fun _ => False) wA W) => (hwd k) ▸ word_any W lo (.slice a n c) hs k (hw.kept (hkA.then kw) (fun _ _ h => h)) (by omega))
  have HT := Lib.hid (hT.kept hkA (fun h => h)); have HKA := Lib.hid hkA; have HWA := Lib.hid hwA
  obtain ⟨N, hN⟩ : ∃ N, N = 1 + n := ⟨_, rfl⟩
  have hNi : (1 : Int) + (n : Int) = (N : Int) := by omega
  have HNN := Lib.hid hN
  clear hbM hwd hkA hwA hw hc hlo hT
  go_enter Tryd.func36, Tryd.ntmps36
  go_wp2_with fail
  rw [← HWA.out]
  obtain ⟨b0, b1⟩ := HBX.out wA (Kept.refl _ _)
  refine (words_any _ lo n c a (by omega)).mono ?_
  rintro e w1 ⟨rfl, k1⟩
  rw [hNi]
  have K1 := Lib.hid k1
  clear k1 b0 b1 hNi
  go_wp2_with fail
  go_loopw [8] (fun iv wr => ∃ k : Nat, k ≤ N ∧ iv = .int .i64 k ∧ Hid (∀ j, j < k → wordN M j = 0) ∧ Hid (Kept (fun _ => False) wA wr)) (fun iv _ => N - (intOf iv).toNat)
  case atStart => exact ⟨0, Nat.zero_le _, rfl, (fun j hj => by omega), K1⟩
  case round =>
    obtain ⟨k, hk, rfl, HBE, hkr⟩ := hrel
    by_cases hlt : k < N
    · have hlt' : (k : Int) < (N : Int) := by omega
      obtain ⟨b0, b1⟩ := HBX.out wr hkr.out
      have HA1 := Lib.hid (HW1.out k (by have := HNN.out; omega))
      have hxl : wordN M k < 18446744073709551616 := wordN_lt M k
      have HLD : Hid (wordN M k ≠ 0 → Lib.ctz 64 (wordN M k) < 64 ∧ LeastS M (64 * k + Lib.ctz 64 (wordN M k))) := fun h => least_word h HBE.out
      generalize hy1 : wordN M k = x at HA1 hxl HLD
      have HY1 := Lib.hid hy1
      clear hy1
      go_wp2_with fail
      refine (HA1.out _ hkr.out).mono ?_
      rintro e w2 ⟨rfl, k2⟩
      replace hkr := Lib.hid (hkr.out.then k2)
      clear k2 b0 b1
      by_cases hx0 : x = 0
      · have hxb : ((x : Int) != 0) = false := by simp [hx0]
        have HX0 := Lib.hid hx0
        clear hx0
        go_wp2_with fail
        go_roundw
        case rel => exact ⟨k + 1, by omega, by go_num, (fun j hj => by
          by_cases hjk : j < k
          · exact HBE.out j hjk
          · have : j = k := by omega
            subst this
            rw [HY1.out, HX0.out]), hkr⟩
        case measure => simp [intOf]; omega
      · have hxb : ((x : Int) != 0) = true := by simp; omega
        obtain ⟨hz, hld⟩ := HLD.out hx0
        have HL := Lib.hid (fun (W : World) (h : Tz W) => leastIn_any x k hxl (by have := HNN.out; omega) (by omega) W h)
        generalize Lib.ctz 64 x = z at hz hld HL
        have HLDD := Lib.hid hld
        clear hld HLD
        go_wp2_with fail
        refine (HL.out _ (HT.out.kept hkr.out (fun h => h))).mono ?_
        rintro e w8 ⟨rfl, rfl⟩
        go_wp2_with fail
        go_ret2
        exact ⟨Or.inr ⟨_, HLDD.out, rfl⟩, HKA.out.then hkr.out⟩
    · have hkn : k = N := by omega
      have hlt' : ¬ (k : Int) < (N : Int) := by omega
      have HR := Lib.hid (HZ.out (fun j hj => HBE.out j (by have := HNN.out; omega)))
      clear hkn
      go_wp2_with fail
      go_ret2
      exact ⟨Or.inl ⟨HR.out, rfl⟩, HKA.out.then hkr.out⟩
theorem least_any (w : World) (v : Value) (M : Nat) (h : SetV w v M) (hS : Small M) (hT : Tz w) :
    Calls Tryd.prog 36 #[v] w fun e w' => ((M = 0 ∧ e = .returned (.tuple #[.int .i64 0, .bool false])) ∨ ∃ d : Nat, LeastS M d ∧ e = .returned (.tuple #[.int .i64 d, .bool true])) ∧ Kept (fun _ => False) w w' := by
  obtain ⟨x, hs, rfl, hw, hc, _⟩ := h.ex
  obtain ⟨a, c, rfl⟩ := hw.form
  exact least_at w M _ _ a c hs rfl rfl hw hc (hc.small hS) hT

end Go.Proofs.YtjglnpijngdpkaaDoor
/-
  bits.Set.Meets.
-/
namespace Go.Proofs.YtjglnpijngdpkaaDoor
open Go.RowKit

theorem and_zero {M K n : Nat} (h0 : (M % 2 ^ 64) &&& (K % 2 ^ 64) = 0) (hM : M / 2 ^ 64 &&& K / 2 ^ 64 < 2 ^ (64 * n)) (h : ∀ j, j < n → wordN (M / 2 ^ 64) j &&& wordN (K / 2 ^ 64) j = 0) : M &&& K = 0 := by
  have h1 : (M &&& K) % 2 ^ 64 = 0 := by rw [mod_and]; exact h0
  have h2 : (M &&& K) / 2 ^ 64 = 0 := by
    rw [div_and]
    refine eq_words (N := n) hM (Nat.pow_pos (by omega)) fun j hj => ?_
    rw [wordN_and, h j hj]
    simp [wordN]
  have := Nat.div_add_mod (M &&& K) (2 ^ 64)
  rw [h1, h2] at this
  omega
theorem and_some0 {M K : Nat} (h : (M % 2 ^ 64) &&& (K % 2 ^ 64) ≠ 0) : M &&& K ≠ 0 := fun e => h (by rw [← mod_and, e])
theorem and_some {M K j : Nat} (h : wordN (M / 2 ^ 64) j &&& wordN (K / 2 ^ 64) j ≠ 0) : M &&& K ≠ 0 := fun e => h (by rw [← wordN_and, ← div_and, e]; simp [wordN])

set_option maxRecDepth 100000 in
set_option maxHeartbeats 3200000 in
theorem meets_at (w : World) (M K : Nat) (a1 : Option Addr) (c1 : Nat) (hs ks : List Nat) (a2 : Option Addr) (c2 : Nat) (hw : Words w (.slice a1 hs.length c1) hs) (hc : Canon hs (M / 2 ^ 64)) (hl : hs.length ≤ 63)
    (hw2 : Words w (.slice a2 ks.length c2) ks) (hc2 : Canon ks (K / 2 ^ 64)) (hl2 : ks.length ≤ 63) :
    Calls Tryd.prog 43 #[.agg #[.int .u64 (M % 2 ^ 64 : Nat), .slice a1 hs.length c1], .agg #[.int .u64 (K % 2 ^ 64 : Nat), .slice a2 ks.length c2]] w fun e w' => e = .returned (.bool (decide (M &&& K ≠ 0))) ∧ Kept (fun _ => False) w w' := by
  obtain ⟨n, hn⟩ : ∃ n, n = hs.length := ⟨_, rfl⟩
  obtain ⟨m, hm⟩ : ∃ n, n = ks.length := ⟨_, rfl⟩
  obtain ⟨lo1, hl1⟩ : ∃ l, l = M % 2 ^ 64 := ⟨_, rfl⟩
  obtain ⟨lo2, hl2'⟩ : ∃ l, l = K % 2 ^ 64 := ⟨_, rfl⟩
  obtain ⟨z, hz⟩ : ∃ z, z = lo1 &&& lo2 := ⟨_, rfl⟩
  have hl1b : lo1 < 18446744073709551616 := by rw [hl1]; exact Nat.mod_lt _ (by decide)
  have hl2b : lo2 < 18446744073709551616 := by rw [hl2']; exact Nat.mod_lt _ (by decide)
  have hx : bits .and .u64 (lo1 : Int) (lo2 : Int) = (z : Int) := by rw [hz]; exact u64_and_nat _ _ hl1b hl2b
  obtain ⟨mn, hmn, hmn1, hmn2⟩ : ∃ mn : Nat, ((n ≤ m ∧ mn = n) ∨ (m < n ∧ mn = m)) ∧ mn ≤ n ∧ mn ≤ m := by
    rcases Nat.lt_or_ge m n with h | h
    · exact ⟨m, Or.inr ⟨h, rfl⟩, by omega, by omega⟩
    · exact ⟨n, Or.inl ⟨h, rfl⟩, by omega, by omega⟩
  have hlt : M / 2 ^ 64 &&& K / 2 ^ 64 < 2 ^ (64 * mn) := by
    rcases hmn with ⟨_, e⟩ | ⟨_, e⟩
    · rw [e, hn]; exact Nat.lt_of_le_of_lt Nat.and_le_left hc.lt
    · rw [e, hm]; exact Nat.lt_of_le_of_lt Nat.and_le_right hc2.lt
  have hk1 : ∀ i, i < n → ∃ gg off, a1 = some ⟨gg, off, none⟩ ∧ gg < w.heap.size ∧ w.cell? ⟨gg, off + i, none⟩ = some (.int .u64 (wordN (M / 2 ^ 64) i : Nat)) := fun i hi => by
    obtain ⟨a, c, e, _, hcell⟩ := words_form hw
    cases e
    obtain ⟨gg, off, e1, e2, e3⟩ := hcell i (by omega)
    exact ⟨gg, off, e1, e2, by rw [e3, canon_getD hc i (by omega)]⟩
  have hk2 : ∀ i, i < m → ∃ gg off, a2 = some ⟨gg, off, none⟩ ∧ gg < w.heap.size ∧ w.cell? ⟨gg, off + i, none⟩ = some (.int .u64 (wordN (K / 2 ^ 64) i : Nat)) := fun i hi => by
    obtain ⟨a, c, e, _, hcell⟩ := words_form hw2
    cases e
    obtain ⟨gg, off, e1, e2, e3⟩ := hcell i (by omega)
    exact ⟨gg, off, e1, e2, by rw [e3, canon_getD hc2 i (by omega)]⟩
  have hS0 : z ≠ 0 → M &&& K ≠ 0 := fun h => and_some0 (by rw [← hl1, ← hl2', ← hz]; exact h)
  have hE0 : z = 0 → (∀ j, j < mn → wordN (M / 2 ^ 64) j &&& wordN (K / 2 ^ 64) j = 0) → M &&& K = 0 := fun h h2 => and_zero (by rw [← hl1, ← hl2', ← hz]; exact h) hlt h2
  rw [← hl1, ← hl2', ← hn, ← hm]
  obtain ⟨wA, hwA⟩ : ∃ wA, wA = (w.alloc (.cells #[.int .u64 lo1, .slice a1 n c1] 57)).alloc (.cells #[.int .u64 lo2, .slice a2 m c2] 57) := ⟨_, rfl⟩
  have hkA : Kept (fun _ => False) w wA := by rw [hwA]; exact (Kept.alloc _ _ _).then (Kept.alloc _ _ _)
  have hbx : ∀ W, Kept (fun _ => False) wA W → W.cell? ⟨w.heap.size, 0, none⟩ = some (.int .u64 (lo1 : Int)) ∧ W.cell? ⟨w.heap.size, 1, none⟩ = some (.slice a1 n c1) ∧ W.cell? ⟨w.heap.size + 1, 0, none⟩ = some (.int .u64 (lo2 : Int)) ∧ W.cell? ⟨w.heap.size + 1, 1, none⟩ = some (.slice a2 m c2) := fun W hk => by
    have hsz : wA.heap.size = w.heap.size + 2 := by rw [hwA]; simp
    refine ⟨(hk.cell (p := ⟨w.heap.size, 0, none⟩) (by simp; omega) (fun h => h)).trans (by rw [hwA]; go_simp), (hk.cell (p := ⟨w.heap.size, 1, none⟩) (by simp; omega) (fun h => h)).trans (by rw [hwA]; go_simp), (hk.cell (p := ⟨w.heap.size + 1, 0, none⟩) (by simp; omega) (fun h => h)).trans (by rw [hwA]; go_simp), (hk.cell (p := ⟨w.heap.size + 1, 1, none⟩) (by simp; omega) (fun h => h)).trans (by rw [hwA]; go_simp)⟩
  have HBX := Lib.hid hbx; have HKA := Lib.hid hkA; have HWA := Lib.hid hwA; have HK1 := Lib.hid hk1; have HK2 := Lib.hid hk2; have HS0 := Lib.hid hS0; have HE0 := Lib.hid hE0
  clear hbx hkA hwA hk1 hk2 hS0 hE0 hlt hz hl1 hl2' hl1b hl2b hw hw2 hc hc2
  rw [← hn] at hl
  rw [← hm] at hl2
  clear hn hm
  by_cases hz0 : z = 0
  · have hzb : ((z : Int) != 0) = false := by simp [hz0]
    rcases hmn with ⟨h1, hme⟩ | ⟨h1, hme⟩
    all_goals
      have HME := Lib.hid hme; clear hme
      go_enter Tryd.func43, Tryd.ntmps43
      go_wp2_with fail
      rw [← HWA.out]
      go_loopw [19] (fun iv wr => ∃ k : Nat, k ≤ mn ∧ iv = .int .i64 k ∧ (∀ j, j < k → wordN (M / 2 ^ 64) j &&& wordN (K / 2 ^ 64) j = 0) ∧ Hid (Kept (fun _ => False) wA wr)) (fun iv _ => mn - (intOf iv).toNat)
      case atStart => exact ⟨0, Nat.zero_le _, rfl, (fun j hj => by omega), Kept.refl _ _⟩
      case round =>
        obtain ⟨k, hk, rfl, hbe, hkr⟩ := hrel
        have HBE := Lib.hid hbe
        clear hbe
        obtain ⟨b0, b1, b2, b3⟩ := HBX.out wr hkr.out
        by_cases hlt : k < mn
        · have hkn : k < n := by omega
          have hkm : k < m := by omega
          obtain ⟨g1, off1, ha1, hg1, hc1⟩ := HK1.out k hkn
          obtain ⟨g2, off2, ha2, hg2, hc2⟩ := HK2.out k hkm
          subst ha1 ha2
          have ck1 := ((HKA.out.then hkr.out).cell (p := ⟨g1, off1 + k, none⟩) hg1 (fun h => h)).trans hc1
          have ck2 := ((HKA.out.then hkr.out).cell (p := ⟨g2, off2 + k, none⟩) hg2 (fun h => h)).trans hc2
          have hand : bits .and .u64 (wordN (M / 2 ^ 64) k : Int) (wordN (K / 2 ^ 64) k : Int) = ((wordN (M / 2 ^ 64) k &&& wordN (K / 2 ^ 64) k : Nat) : Int) := u64_and_nat _ _ (wordN_lt _ _) (wordN_lt _ _)
          have HSOME : Hid (wordN (M / 2 ^ 64) k &&& wordN (K / 2 ^ 64) k ≠ 0 → M &&& K ≠ 0) := and_some
          have HX : Hid (wordN (M / 2 ^ 64) k &&& wordN (K / 2 ^ 64) k = 0 → ∀ j, j < k + 1 → wordN (M / 2 ^ 64) j &&& wordN (K / 2 ^ 64) j = 0) := fun h j hj => by
            by_cases hjk : j < k
            · exact HBE.out j hjk
            · have : j = k := by omega
              subst this; exact h
          have hlt1 : (k : Int) < (mn : Int) := by omega
          have hlt2 : (k : Int) < (n : Int) := by omega
          have hlt3 : (k : Int) < (m : Int) := by omega
          have hk0 : (0 : Int) ≤ (k : Int) := by omega
          generalize wordN (M / 2 ^ 64) k &&& wordN (K / 2 ^ 64) k = x at hand HSOME HX
          generalize wordN (M / 2 ^ 64) k = y1 at hand ck1
          generalize wordN (K / 2 ^ 64) k = y2 at hand ck2
          clear hc1 hc2 HBE
          by_cases hx0 : x = 0
          · have hxb : ((x : Int) != 0) = false := by simp [hx0]
            go_wp2_with fail
            go_quiet (fail)
            go_wp2_with fail
            go_roundw
            case rel => exact ⟨k + 1, by omega, by go_num, HX.out hx0, Lib.hid (hkr.out.drewN _)⟩
            case measure => simp [intOf]; omega
          · have hxb : ((x : Int) != 0) = true := by simp; omega
            have HR := Lib.hid (HSOME.out hx0)
            go_wp2_with fail
            go_quiet (fail)
            go_wp2_with fail
            go_ret
            exact ⟨by rw [decide_eq_true HR.out]; rfl, HKA.out.then (hkr.out.drewN _)⟩
        · have hkn : k = mn := by omega
          have hme := HME.out
          have hx1 : (¬ (k : Int) < (n : Int) ∧ n ≤ m) ∨ (¬ (k : Int) < (m : Int) ∧ m < n) := by omega
          have HR := Lib.hid (HE0.out hz0 (fun j hj => HBE.out j (by omega)))
          clear HBE hme
          rcases hx1 with ⟨hx1, hx2⟩ | ⟨hx1, hx2⟩
          all_goals
            first
              | (exfalso; omega)
              | (clear hkn
                 go_wp2_with fail
                 go_ret
                 exact ⟨by first | (rw [decide_eq_true HR.out]; rfl) | (rw [decide_eq_false (fun h => h HR.out)]; rfl), HKA.out.then hkr.out⟩)
  · have hzb : ((z : Int) != 0) = true := by simp; omega
    have HR := Lib.hid (HS0.out hz0)
    go_enter Tryd.func43, Tryd.ntmps43
    go_wp2_with fail
    rw [← HWA.out]
    go_ret
    exact ⟨by rw [decide_eq_true HR.out]; rfl, HKA.out⟩

theorem meets_any (w : World) (v u : Value) (M K : Nat) (hv : SetV w v M) (hu : SetV w u K) (hS : Small M) (hS2 : Small K) :
    Calls Tryd.prog 43 #[v, u] w fun e w' => e = .returned (.bool (decide (M &&& K ≠ 0))) ∧ Kept (fun _ => False) w w' := by
  obtain ⟨x, hs, rfl, hw, hc, _⟩ := hv.ex
  obtain ⟨y, ks, rfl, hw2, hc2, _⟩ := hu.ex
  obtain ⟨a1, c1, rfl⟩ := hw.form
  obtain ⟨a2, c2, rfl⟩ := hw2.form
  exact meets_at w M K a1 c1 hs ks a2 c2 hw hc (hc.small hS) hw2 hc2 (hc2.small hS2)
end Go.Proofs.YtjglnpijngdpkaaDoor
