import Derived.Laws.BitsAllLaws
import Derived.IntWalk
import Derived.Shelf.Strconv.Itoa0
import Derived.Ground.SlbCloneProg
import Derived.Shelf.Bytes.SlClone
import Derived.Test.YtjglnpijngdpkaaGreatDoorProg
import Derived.Test.YtjglnpijngdpkaaGreatDoorCore
import Derived.Test.YtjglnpijngdpkaaGreatDoorRows
import Derived.Laws.BytesArg
import Derived.Lib.BufferRead
import Derived.Outline
import Derived.WalkLawsBesides
import Derived.WalkSpells
import Derived.Lib.BitFns
import Derived.Lib.ItoaNum
import Derived.RowKit
import Derived.Deep.RegionHeld3
import Derived.Deep.RegionLaw
import Derived.BigRegion
import Derived.Deep.DrawnRows
import Derived.Deep.DeepMust
import Derived.Deep.LoopGhost
import Derived.BigQuiet
import Derived.OwnWalk
import Derived.Lib.AppendStr
import Derived.Maps.AppendAt
import Derived.Laws.AppendOwnNone
/-
  Plain words on numbers in groups of seven bits: 'enc' (the encoding), 'numberS' (what is read at the front of bytes), and that what was encoded is read back. No program is named here.
-/
namespace Go.Proofs.YtjglnpijngdpkaaGreatDoor

/-- The groups ahead of the last one. -/
def encHi (v : Nat) : List Nat := if v = 0 then [] else encHi (v / 128) ++ [v % 128 + 128]
termination_by v
decreasing_by omega

/-- The encoding of a number. -/
def enc (v : Nat) : List Nat := encHi (v / 128) ++ [v % 128]

theorem encHi_zero : encHi 0 = [] := by rw [encHi]; rfl
theorem encHi_pos {v : Nat} (h : v ≠ 0) : encHi v = encHi (v / 128) ++ [v % 128 + 128] := by
  conv => lhs; rw [encHi]
  rw [if_neg h]

theorem encHi_len : ∀ (n v : Nat), v < 128 ^ n → (encHi v).length ≤ n
  | 0, v, h => by
    have : v = 0 := by simpa using h
    subst this; simp [encHi_zero]
  | n + 1, v, h => by
    by_cases hv : v = 0
    · subst hv; simp [encHi_zero]
    · rw [encHi_pos hv]
      have := encHi_len n (v / 128) (by rw [Nat.pow_succ] at h; omega)
      simp; omega

theorem enc_len {v : Nat} (h : v < 18446744073709551616) : (enc v).length ≤ 10 := by
  have := encHi_len 9 (v / 128) (by have : (128 : Nat) ^ 9 = 9223372036854775808 := by decide
                                    omega)
  simp [enc]; omega
theorem enc_pos (v : Nat) : 0 < (enc v).length := by simp [enc]

theorem encHi_byte : ∀ (n v : Nat), v ≤ n → ∀ b ∈ encHi v, 128 ≤ b ∧ b < 256
  | 0, v, h => by
    have : v = 0 := by omega
    subst this; simp [encHi_zero]
  | n + 1, v, h => by
    by_cases hv : v = 0
    · subst hv; simp [encHi_zero]
    · intro b hb
      rw [encHi_pos hv, List.mem_append] at hb
      rcases hb with hb | hb
      · exact encHi_byte n (v / 128) (by omega) b hb
      · simp at hb; omega

theorem enc_byte (v : Nat) : ∀ b ∈ enc v, b < 256 := by
  intro b hb
  rw [enc, List.mem_append] at hb
  rcases hb with hb | hb
  · exact (encHi_byte _ _ (Nat.le_refl _) b hb).2
  · simp at hb; omega

/-- The loop over the bytes: v so far, i bytes behind. -/
def numLoop (v i : Nat) : List Nat → Nat × Nat
  | [] => (0, 0)
  | b :: t => if v / 144115188075855872 ≠ 0 then (0, 0) else if b < 128 then (v * 128 + b % 128, i + 1) else numLoop (v * 128 + b % 128) (i + 1) t

/-- The number at the front of bytes, and how many bytes it has; 0 and 0: there is none. -/
def numberS (p : List Nat) : Nat × Nat := if 1 < p.length ∧ p.getD 0 0 = 128 then (0, 0) else numLoop 0 0 p

theorem numLoop_hi : ∀ (n u i : Nat) (rest : List Nat), u ≤ n → u < 18446744073709551616 → numLoop 0 i (encHi u ++ rest) = numLoop u (i + (encHi u).length) rest
  | 0, u, i, rest, h, _ => by
    have : u = 0 := by omega
    subst this; simp [encHi_zero]
  | n + 1, u, i, rest, h, hb => by
    by_cases hv : u = 0
    · subst hv; simp [encHi_zero]
    · rw [encHi_pos hv, List.append_assoc, numLoop_hi n (u / 128) i _ (by omega) (by omega)]
      simp only [List.singleton_append, List.length_append, List.length_singleton]
      rw [numLoop, if_neg (by omega), if_neg (by omega)]
      congr 1
      omega

theorem encHi_head : ∀ (n u : Nat), u ≤ n → u ≠ 0 → (encHi u).getD 0 0 ≠ 128 ∧ (encHi u) ≠ []
  | 0, u, h, h0 => by omega
  | n + 1, u, h, h0 => by
    rw [encHi_pos h0]
    by_cases h1 : u / 128 = 0
    · rw [h1, encHi_zero]; simp; omega
    · have ⟨h2, h3⟩ := encHi_head n (u / 128) (by omega) h1
      refine ⟨?_, by simp⟩
      rw [List.getD_eq_getElem?_getD, List.getElem?_append_left (List.length_pos_iff.2 h3), ← List.getD_eq_getElem?_getD]
      exact h2

theorem numberS_enc {v : Nat} (rest : List Nat) (hv : v < 18446744073709551616) : numberS (enc v ++ rest) = (v, (enc v).length) := by
  have hh : ¬ (1 < (enc v ++ rest).length ∧ (enc v ++ rest).getD 0 0 = 128) := by
    rintro ⟨_, h⟩
    by_cases h1 : v / 128 = 0
    · rw [enc, h1, encHi_zero] at h; simp at h; omega
    · have ⟨h2, h3⟩ := encHi_head _ (v / 128) (Nat.le_refl _) h1
      rw [enc, List.append_assoc, List.getD_eq_getElem?_getD, List.getElem?_append_left (List.length_pos_iff.2 h3), ← List.getD_eq_getElem?_getD] at h
      exact h2 h
  rw [numberS, if_neg hh, enc, List.append_assoc, numLoop_hi _ _ _ _ (Nat.le_refl _) (by omega)]
  simp only [List.singleton_append, List.length_append, List.length_singleton]
  rw [numLoop, if_neg (by omega), if_pos (by omega)]
  congr 1 <;> omega

theorem numLoop_le : ∀ (p : List Nat) (v i : Nat), (numLoop v i p).2 ≤ i + p.length
  | [], v, i => by simp [numLoop]
  | b :: t, v, i => by
    rw [numLoop]
    split
    · simp
    · split
      · simp
      · have := numLoop_le t (v * 128 + b % 128) (i + 1)
        simp; omega

theorem numberS_le (p : List Nat) : (numberS p).2 ≤ p.length := by
  unfold numberS
  split
  · simp
  · have := numLoop_le p 0 0; omega

theorem numLoop_lt : ∀ (p : List Nat) (v i : Nat), (numLoop v i p).1 < 18446744073709551616
  | [], v, i => by simp [numLoop]
  | b :: t, v, i => by
    rw [numLoop]
    split
    · simp
    · split
      · simp; omega
      · exact numLoop_lt t _ _

theorem numberS_lt (p : List Nat) : (numberS p).1 < 18446744073709551616 := by
  unfold numberS
  split
  · simp
  · exact numLoop_lt p 0 0

end Go.Proofs.YtjglnpijngdpkaaGreatDoor
/-
  Plain words: bits of bytes and of 64-bit numbers, as the walk writes them. No program is named here.
-/
namespace Go.Proofs.YtjglnpijngdpkaaGreatDoor

theorem or128 (x : Nat) (h : x < 256) : x ||| 128 = x % 128 + 128 := by
  have : ∀ x : Fin 256, x.val ||| 128 = x.val % 128 + 128 := by decide +kernel
  exact this ⟨x, h⟩

/-- 'byte(v >> S) | 128'. -/
theorem group_more (n S b : Nat) (h : b = n / 2 ^ S % 128 + 128) : bits .or .u8 (IntKind.u8.wrap ((n : Int) / 2 ^ S)) 128 = (b : Int) := by
  have e : IntKind.u8.wrap ((n : Int) / 2 ^ S) = ((n / 2 ^ S % 256 : Nat) : Int) := by
    rw [IntKind.wrap_u8']
    simp
  rw [e, show (128 : Int) = ((128 : Nat) : Int) from rfl, u8_or_nat _ _ (by omega) (by omega), or128 _ (by omega), h]
  congr 1
  omega

/-- 'byte(v) & 127'. -/
theorem group_last (n : Nat) : bits .and .u8 (IntKind.u8.wrap (n : Int)) 127 = ((n % 128 : Nat) : Int) := by
  have e : IntKind.u8.wrap (n : Int) = ((n % 256 : Nat) : Int) := by
    rw [IntKind.wrap_u8']
    simp
  rw [e, show (127 : Int) = ((127 : Nat) : Int) from rfl, u8_and_nat _ _ (by omega) (by omega), nat_mask7]
  congr 1
  omega

theorem group_last' (n c : Nat) (h : c = n % 128) : bits .and .u8 ((n : Int) % 256) 127 = (c : Int) := by
  rw [h, ← group_last, IntKind.wrap_u8']

/-- 'v << 7 | uint64(b & 127)'. -/
theorem group_in (x b y : Nat) (hx : x / 144115188075855872 = 0) (hb : b < 256) (hy : y = x * 128 + b % 128) :
    bits .or .u64 (IntKind.u64.wrap ((x : Int) * 128)) (IntKind.u64.wrap (bits .and .u8 (b : Int) 127)) = (y : Int) := by
  rw [show (127 : Int) = ((127 : Nat) : Int) from rfl, u8_and_nat _ _ hb (by omega), nat_mask7]
  have e1 : IntKind.u64.wrap ((x : Int) * 128) = ((x * 128 : Nat) : Int) := by rw [IntWalk.u64_in _ (by omega)]; omega
  have e2 : IntKind.u64.wrap (((b % 128 : Nat)) : Int) = ((b % 128 : Nat) : Int) := by rw [IntWalk.u64_in _ (by omega)]
  rw [e1, e2, u64_or_nat _ _ (by omega) (by omega), nat_join 7 _ _ (by omega) (by omega), hy]

end Go.Proofs.YtjglnpijngdpkaaGreatDoor
/-
  The library's contracts of math/bits.Len64 and bytes.Clone, laid at this seat's program.
-/
namespace Go.Proofs.YtjglnpijngdpkaaGreatDoor
open Go.Shelf
def lays129_ren : Go.Shelf.Ren := ⟨fun | 129 => 43 | n => n, fun | 53 => 45 | 3 => 3 | 4 => 4 | 46 => 111 | 5 => 5 | 9 => 9 | n => n, fun | n => n⟩
theorem lays129 : Go.Proofs.Lays.n129 Tryz.prog lays129_ren := {
  mixed := by kernel_rfl
  f129 := Tryz.func43.trans (congrArg some (by kernel_rfl))
  t3 := Tryz.underlying3
  a3 := Tryz.isAgg3
  z3 := Tryz.sizeOf3
  v3 := Tryz.zeroValue3
  t4 := Tryz.underlying4
  a4 := Tryz.isAgg4
  z4 := Tryz.sizeOf4
  v4 := Tryz.zeroValue4
  t5 := Tryz.underlying5
  a5 := Tryz.isAgg5
  z5 := Tryz.sizeOf5
  v5 := Tryz.zeroValue5
  t9 := Tryz.underlying9
  a9 := Tryz.isAgg9
  z9 := Tryz.sizeOf9
  v9 := Tryz.zeroValue9
  t46 := Tryz.underlying111
  a46 := Tryz.isAgg111
  z46 := Tryz.sizeOf111
  v46 := Tryz.zeroValue111
  t53 := Tryz.underlying45
  a53 := Tryz.isAgg45
  z53 := Tryz.sizeOf45
  v53 := Tryz.zeroValue45 }
theorem sh_Len64 (x : Int) (w : World) (h0 : 0 ≤ x) (h1 : x ≤ 18446744073709551615) :
    Calls Tryz.prog 43 #[.int .u64 x] w fun e w' => e = .returned (.int .i64 (Lib.bitLen x.toNat)) ∧ w = w' := (Any.bits_Len64 lays129 x w h0 h1).mono fun _ _ h => ⟨h.1, h.2.symm⟩
def laysSlK4_ren : Go.Shelf.Ren := ⟨fun | 4 => 45 | n => n, fun | 22 => 52 | 4 => 4 | 5 => 5 | n => n, fun | n => n⟩
theorem laysSlK4 : Go.Proofs.SlLaysK.n4 Tryz.prog laysSlK4_ren := {
  mixed := by kernel_rfl
  f4 := Tryz.func45.trans (congrArg some (by kernel_rfl))
  t4 := Tryz.underlying4
  a4 := Tryz.isAgg4
  z4 := Tryz.sizeOf4
  v4 := Tryz.zeroValue4
  t22 := Tryz.underlying52
  a22 := Tryz.isAgg52
  z22 := Tryz.sizeOf52
  v22 := Tryz.zeroValue52
  t5 := Tryz.underlying5
  i5 := by kernel_rfl }
open Go.RowKit Go.Lib in
theorem sh_Clone_at (a : Addr) (n c : Nat) (xs : List Int) (w : World) (hx : xs.length = n) (hbig : n ≤ 140737488355328) (hc : ∀ i, i < n → w.cell? (a.add i) = some (.int .u8 (xs.getD i 0))) :
    Calls Tryz.prog 45 #[.slice (some a) n c] w fun e w' => ∃ v', e = .returned v' ∧ w'.ownsRow w.heap.size 5 1 v' n (xs.map (Value.int .u8)) ∧ v' ≠ .slice none 0 0 ∧ Below w.heap.size w w' := Any.bytes_Clone_at laysSlK4 a n c xs w hx hbig hc
theorem sh_Clone_nil (n c : Nat) (w : World) :
    Calls Tryz.prog 45 #[.slice none n c] w fun e w' => e = .returned (.slice none 0 0) ∧ w = w' := (Any.bytes_Clone_nil laysSlK4 n c w).mono fun _ _ h => ⟨h.1, h.2.symm⟩
end Go.Proofs.YtjglnpijngdpkaaGreatDoor
/-
  bytes.Clone over what is read; NewWriter, Out, NewReader; bytes as strings.
-/
namespace Go.Proofs.YtjglnpijngdpkaaGreatDoor
open Go.RowKit

/-- A value that reads as xs, in a row of its own from block B on. -/
structure Fresh (w : World) (B : Nat) (v : Value) (xs : List Nat) : Prop where
  own : w.ownsRow B 5 1 v xs.length (bv xs)
  block : ∀ k, v.ownBlock = some k → B ≤ k

theorem Fresh.reads {w : World} {B : Nat} {v : Value} {xs : List Nat} (h : Fresh w B v xs) : Reads w v xs := Reads.ofOwns h.own

theorem clone_any (v : Value) (xs : List Nat) (w : World) (h : Reads w v xs) (hl : xs.length ≤ 140737488355328) :
    Calls Tryz.prog 45 #[v] w fun e w' => ∃ v', e = .returned v' ∧ Fresh w' w.heap.size v' xs ∧ Kept (fun _ => False) w w' := by
  rcases h with ⟨rfl, rfl⟩ | ⟨g, off, cap, rfl, h1, h2, h3, h4⟩
  · refine (sh_Clone_nil 0 0 w).mono ?_
    rintro e w' ⟨rfl, rfl⟩
    exact ⟨_, rfl, ⟨World.ownsRow_nil _ _ _ _, by intro k hk; simp [Value.ownBlock] at hk⟩, Kept.refl _ _⟩
  · refine (sh_Clone_at ⟨g, off, none⟩ xs.length cap (xs.map fun n : Nat => (n : Int)) w (by simp) hl (fun i hi => ?_)).mono ?_
    · have hadd : (⟨g, off, none⟩ : Addr).add i = ⟨g, off + i, none⟩ := by unfold Addr.add; split <;> simp_all
      rw [hadd, h4 i hi]
      simp [List.getD, hi]
    · rintro e w' ⟨v', rfl, ho, _, hb⟩
      rw [bv_ints] at ho
      exact ⟨v', rfl, ⟨ho, fun k hk => (ho.lt k hk).1⟩, Kept.ofBelow _ hb⟩

set_option maxRecDepth 100000 in
theorem newWriter_any (w : World) :
    Calls Tryz.prog 15 #[] w fun e w' => e = .returned (.pointer (some ⟨w.heap.size, 0, none⟩)) ∧ w' = w.alloc (.cells #[.slice none 0 0] 83) := by
  go_enter Tryz.func15, Tryz.ntmps15
  go_wp2_with fail
  go_ret
  exact ⟨rfl, rfl⟩

/-- What a new writer holds: nothing. -/
theorem wr_new (w : World) (B : Nat) (hB : B ≤ w.heap.size) : Wr (w.alloc (.cells #[.slice none 0 0] 83)) w.heap.size (.slice none 0 0) B [] :=
  ⟨by go_simp, by go_simp, World.ownsRow_nil _ _ _ _, by simp [Value.ownBlock], hB⟩

set_option maxRecDepth 100000 in
theorem out_any (w : World) (wb : Nat) (v : Value) (xs : List Nat) (hr : Reads w v xs) (hl : xs.length ≤ 140737488355328) (hc : w.cell? ⟨wb, 0, none⟩ = some v) :
    Calls Tryz.prog 20 #[.pointer (some ⟨wb, 0, none⟩)] w fun e w' => ∃ v', e = .returned v' ∧ Fresh w' w.heap.size v' xs ∧ Kept (fun _ => False) w w' := by
  go_enter Tryz.func20, Tryz.ntmps20
  go_wp2_with fail
  refine (clone_any v xs w hr hl).mono ?_
  rintro e w' ⟨v', rfl, hf, hk⟩
  go_wp2_with fail
  go_ret
  exact ⟨v', rfl, hf, hk⟩

theorem Wr.reads {w : World} {wb : Nat} {v : Value} {B : Nat} {xs : List Nat} (h : Wr w wb v B xs) : Reads w v xs := Reads.ofOwns h.own

set_option maxRecDepth 100000 in
set_option maxHeartbeats 400000 in
theorem newReader_any (w : World) (v : Value) (xs : List Nat) (hr : Reads w v xs) (hl : xs.length ≤ 140737488355328) :
    Calls Tryz.prog 19 #[v] w fun e w' => ∃ rb v', e = .returned (.pointer (some ⟨rb, 0, none⟩)) ∧ Rd w' rb v' xs 0 ∧ w.heap.size ≤ rb ∧ (∀ k, v'.ownBlock = some k → w.heap.size ≤ k) ∧ Kept (fun _ => False) w w' := by
  go_enter Tryz.func19, Tryz.ntmps19
  go_wp2_with fail
  refine (clone_any v xs w hr hl).mono ?_
  rintro e w1 ⟨v', rfl, hf, hk⟩
  obtain ⟨a, n, c, hv⟩ : ∃ a n c, v' = .slice a n c := by
    rcases hf.reads with ⟨h, _⟩ | ⟨g, off, cap, h, _⟩
    · exact ⟨_, _, _, h⟩
    · exact ⟨_, _, _, h⟩
  subst hv
  have HF := Lib.hid hf; clear hf
  go_wp2_with fail
  go_ret
  refine ⟨w1.heap.size, _, rfl, ?_, hk.size, HF.out.block, hk.trans (Kept.alloc (fun _ => False) _ _) (fun _ _ h => h) (fun _ _ h => h)⟩
  have hlt := HF.out.reads.lt
  exact ⟨by go_simp, by go_simp, by go_simp, by go_simp, HF.out.reads.kept (Kept.alloc (fun _ => False) _ _) (fun _ _ h => h), fun e => by have := hlt _ e; omega⟩

theorem reads_str {w : World} {v : Value} {xs : List Nat} (h : Reads w v xs) : (convert 52 9 v).run Tryz.prog w = .ok (.string (strOfNums (xs.map fun n : Nat => (n : Int)))) w := by
  rcases h with ⟨rfl, rfl⟩ | ⟨g, off, cap, rfl, h1, h2, h3, h4⟩
  · exact run_convert_bytes_nil w 52 5 Tryz.underlying52 Tryz.underlying5 0 0 9 Tryz.underlying9
  · refine run_convert_bytes_arg w 52 5 Tryz.underlying52 Tryz.underlying5 g off xs.length cap (xs.map fun n : Nat => (n : Int)) (by simp) (fun i hi => ?_) 9 Tryz.underlying9
    rw [h4 i hi]
    simp [List.getD, hi]

theorem str_inj {xs ys : List Nat} (hx : ∀ b ∈ xs, b < 256) (hy : ∀ b ∈ ys, b < 256) : strOfNums (xs.map fun n : Nat => (n : Int)) = strOfNums (ys.map fun n : Nat => (n : Int)) ↔ xs = ys := by
  refine ⟨fun h => ?_, fun h => by rw [h]⟩
  have h1 := congrArg (fun s : ByteArray => s.data.toList.map UInt8.toNat) h
  simp only [strOfNums_data, List.map_map] at h1
  have key : ∀ zs : List Nat, (∀ b ∈ zs, b < 256) → zs.map (UInt8.toNat ∘ (fun n : Int => UInt8.ofNat n.toNat) ∘ fun n : Nat => (n : Int)) = zs := by
    intro zs hz
    conv => rhs; rw [← List.map_id zs]
    refine List.map_congr_left fun b hb => ?_
    simp [Nat.mod_eq_of_lt (hz b hb)]
  rw [key xs hx, key ys hy] at h1
  exact h1

end Go.Proofs.YtjglnpijngdpkaaGreatDoor
/-
  Plain words: how many groups of seven bits a number has ahead of the last one.
-/
namespace Go.Proofs.YtjglnpijngdpkaaGreatDoor
open Go.RowKit

theorem last_spec (n : Nat) (hn : n < 18446744073709551616) :
    ∃ L : Nat, wrap64 ((wrap64 (max (Lib.bitLen n : Int) 1 - 1)).tdiv 7) = (L : Int) ∧ L ≤ 9 ∧ n < 128 ^ (L + 1) ∧ (L ≠ 0 → 128 ^ L ≤ n) := by
  have h64 : Lib.bitLen n ≤ 64 := Lib.bitLen_le n 64 (by omega) (by simpa using hn)
  refine ⟨(max (Lib.bitLen n) 1 - 1) / 7, ?_, ?_, ?_, ?_⟩
  · rw [IntWalk.wrap64_in (max (Lib.bitLen n : Int) 1 - 1) (by omega), Int.tdiv_eq_ediv_of_nonneg (by omega), IntWalk.wrap64_in _ (by omega)]
    omega
  · omega
  · by_cases h0 : n = 0
    · subst h0; exact Nat.pow_pos (by omega)
    · have ⟨h1, h2, h3⟩ := Lib.bitLenAux_bounds 64 n (by simpa using hn) h0
      have e : (128 : Nat) = 2 ^ 7 := by decide
      rw [e, ← Nat.pow_mul]
      exact Nat.lt_of_lt_of_le h3 (Nat.pow_le_pow_right (by omega) (by change Lib.bitLen n ≤ _; omega))
  · intro hL
    have h0 : n ≠ 0 := by
      rintro rfl
      have : Lib.bitLen 0 = 0 := Lib.bitLenAux_zero 64
      rw [this] at hL; simp at hL
    have ⟨h1, h2, h3⟩ := Lib.bitLenAux_bounds 64 n (by simpa using hn) h0
    have e : (128 : Nat) = 2 ^ 7 := by decide
    rw [e, ← Nat.pow_mul]
    exact Nat.le_trans (Nat.pow_le_pow_right (by omega) (by change 7 * ((max (Lib.bitLen n) 1 - 1) / 7) ≤ Lib.bitLen n - 1; omega)) h2

/-- One group more. -/
theorem encHi_step (n L k : Nat) (hk : k < L) (hlo : 128 ^ L ≤ n) : encHi (n / 128 ^ (L - k)) = encHi (n / 128 ^ (L + 1 - k)) ++ [n / 128 ^ (L - k) % 128 + 128] := by
  have hpos : (0 : Nat) < 128 ^ (L - k) := Nat.pow_pos (by omega)
  have h1 : n / 128 ^ (L - k) ≠ 0 := by
    have : 128 ^ (L - k) ≤ n := Nat.le_trans (Nat.pow_le_pow_right (by omega) (by omega)) hlo
    have := Nat.div_pos this hpos
    omega
  rw [encHi_pos h1, show L + 1 - k = (L - k) + 1 by omega, Nat.pow_succ, Nat.div_div_eq_div_mul]

end Go.Proofs.YtjglnpijngdpkaaGreatDoor
/-
  (*wire.Writer).Uint: it appends the encoding of the number.
-/
namespace Go.Proofs.YtjglnpijngdpkaaGreatDoor
open Go.RowKit

theorem info_u8 : (Tryz.prog.info? 5).map (fun i => (i.zero, i.size, i.bytes)) = some (some (.int .u8 0), 1, 1) := by kernel_rfl

set_option maxRecDepth 100000 in
set_option maxHeartbeats 800000 in
theorem uint_any (n : Nat) (w : World) (wb : Nat) (v : Value) (B : Nat) (xs : List Nat) (h : Wr w wb v B xs) (hl : xs.length ≤ 100000000000000) (hn : Hid (n < 18446744073709551616)) :
    Calls Tryz.prog 17 #[.pointer (some ⟨wb, 0, none⟩), .int .u64 n] w fun e w' => e = .returned (.tuple #[]) ∧
      ∃ v', Wr w' wb v' B (xs ++ enc n) ∧ WStep w w' wb v v' := by
  obtain ⟨i0, hi, hz0, hz1, hz2⟩ := info_parts info_u8
  go_enter Tryz.func17, Tryz.ntmps17
  go_wp2_with fail
  refine (sh_Len64 _ _ (by omega) (by have := hn.out; omega)).mono ?_
  rintro e w0 ⟨rfl, rfl⟩
  obtain ⟨L, hL, hL9, hhi, hlo⟩ := last_spec n hn.out
  simp only [Int.toNat_natCast] 
  generalize hb : (Lib.bitLen n : Int) = bl at hL ⊢
  clear hb
  have HL := Lib.hid hL; clear hL
  have HI := Lib.hid hhi; clear hhi
  have LO := Lib.hid hlo; clear hlo
  go_wp2_with fail
  rw [HL.out]
  have HW := Lib.hid h; clear h
  go_loopw [14] (fun i wr => ∃ k : Nat, k ≤ L ∧ i = .int .i64 k ∧ ∃ v1, Wr wr wb v1 B (xs ++ encHi (n / 128 ^ (L + 1 - k))) ∧ WStep w wr wb v v1) (fun i _ => L - (intOf i).toNat)
  case atStart =>
    refine ⟨0, Nat.zero_le _, rfl, v, ?_, WStep.refl _ _ _⟩
    rw [Nat.sub_zero, Nat.div_eq_of_lt HI.out, encHi_zero, List.append_nil]
    exact HW.out
  case round =>
    obtain ⟨k, hk, rfl, v1, hw1, hs1⟩ := hrel
    have hc := hw1.cell
    have hf := hw1.free
    have HF := Lib.hid hf
    have HC := Lib.hid hc
    have hwlt := hw1.lt
    have hap := hw1.apart
    have hbase := hw1.base
    have hel : (encHi (n / 128 ^ (L + 1 - k))).length ≤ 9 := encHi_len 9 _ (by have := hn.out; have h2 : n / 128 ^ (L + 1 - k) ≤ n / 128 := by (rw [show L + 1 - k = (L - k) + 1 by omega, Nat.pow_succ, ← Nat.div_div_eq_div_mul]; exact Nat.div_le_div_right (Nat.div_le_self _ _)) 
                                                                               have h3 : (128 : Nat) ^ 9 = 9223372036854775808 := by decide
                                                                               omega)
    have hm1 : (xs ++ encHi (n / 128 ^ (L + 1 - k))).length + 1 ≤ maxLen := by rw [List.length_append]; unfold maxLen; omega
    have hm2 : ((xs ++ encHi (n / 128 ^ (L + 1 - k))).length + 1) * 1 ≤ 140737488355328 := by rw [List.length_append]; omega
    by_cases hlt : k < L
    · have hk1 : (k : Int) < L := by omega
      obtain ⟨M, hM⟩ : ∃ M : Nat, M = L - k := ⟨_, rfl⟩
      obtain ⟨S, hS⟩ : ∃ S : Nat, S = 7 * M := ⟨_, rfl⟩
      have he1 : IntKind.i64.wrap ((L : Int) - k) = (M : Int) := by rw [IntWalk.i64_in _ (by omega)]; omega
      have he2 : IntKind.i64.wrap ((M : Int) * 7) = (S : Int) := by rw [IntWalk.i64_in _ (by omega)]; omega
      have hS0 : (0 : Int) ≤ (S : Int) := by omega
      have hS1 : (S : Int) ≤ 64 := by omega
      obtain ⟨b, hb⟩ : ∃ b : Nat, b = n / 2 ^ S % 128 + 128 := ⟨_, rfl⟩
      have hv := group_more n S b hb
      have Hb := Lib.hid hb; clear hb
      have HM := Lib.hid hM; clear hM
      have HS := Lib.hid hS; clear hS
      go_wp2_with fail
      go_region_law (
        ((refine step_append_lies _ (by rfl) _ _ _ (by rfl) B 5 i0 _ 1 1 Tryz.underlying52 hi hz0 hz1 hz2 rfl (by omega) v1 _ _ (by rfl) ((hw1.own.alloc _).drew)
              ⟨wr.heap.size, 0, none⟩ 1 1 [.int .u8 b] (by rfl) (by rfl) (World.news_of_block (cs := #[.int .u8 b]) (t := 5) (fr := (0, 0)) (heap_alloc_new wr _)) (by simp [Value.oneCell'])
              (by omega) hm1 hm2 (by simp; omega) (wr.heap.size + 1) (by simp) ?_; intro gg cap w1 hown1 hgrow hat hgl; have hfz : w1.frozen? ⟨wb, 0, none⟩ = false := (hgrow.frozen_far ⟨wb, 0, none⟩ (by simp; omega) (Ne.symm hap)).trans ((frozen?_alloc_cells _ _ _ _).trans HF.out); have hcz : w1.cell? ⟨wb, 0, none⟩ = some v1 := (hgrow.cell_far ⟨wb, 0, none⟩ (by simp; omega) (Ne.symm hap)).trans ((World.cell?_alloc_past _ _ _ hwlt).trans HC.out))))
      all_goals
        go_wp2
        go_roundw
        case rel =>
          have hp := wr_push1 (ys := [b]) hw1 (Kept.alloc _ _ _).drew rfl rfl hown1 hgrow (hat.imp id (by omega))
          rw [List.length_append] at hp
          refine ⟨k + 1, by omega, by go_num, _, ?_, hs1.trans hp.2⟩
          have he := encHi_step n L k hlt (LO.out (by omega))
          rw [show L + 1 - (k + 1) = L - k by omega, he, ← List.append_assoc]
          have hbb : b = n / 128 ^ (L - k) % 128 + 128 := by rw [Hb.out, HS.out, HM.out, Nat.pow_mul]
          rw [← hbb]
          exact hp.1
        case measure => simp [intOf]; omega
    · obtain rfl : k = L := by omega
      obtain ⟨c, hc'⟩ : ∃ c : Nat, c = n % 128 := ⟨_, rfl⟩
      have hg := group_last' n c hc'
      have HC' := Lib.hid hc'; clear hc'
      go_wp2_with (at_builtin; refine wpList_append_lies _ rfl _ _ _ rfl B 5 i0 _ 1 1 Tryz.underlying52 hi hz0 hz1 hz2 rfl (by omega) v1 _ _ rfl (hw1.own.alloc _) ⟨wr.heap.size, 0, none⟩ 1 1 [.int .u8 c] rfl rfl (World.news_of_block (cs := #[.int .u8 c]) (t := 5) (fr := (0, 0)) (heap_alloc_new wr _)) (by simp [Value.oneCell']) (by omega) hm1 hm2 (by simp; omega) (wr.heap.size + 1) (by simp) ?_)
      intro gg cap w1 hown1 hgrow hat hgl
      have hfz : w1.frozen? ⟨wb, 0, none⟩ = false := (hgrow.frozen_far ⟨wb, 0, none⟩ (by simp; omega) (Ne.symm hap)).trans ((frozen?_alloc_cells _ _ _ _).trans HF.out)
      have hcz : w1.cell? ⟨wb, 0, none⟩ = some v1 := (hgrow.cell_far ⟨wb, 0, none⟩ (by simp; omega) (Ne.symm hap)).trans ((World.cell?_alloc_past _ _ _ hwlt).trans HC.out)
      have hw2 : Wr wr wb v1 B (xs ++ encHi (n / 128)) := by simpa using hw1
      have hp := wr_push1 (ys := [c]) hw2 (Kept.alloc _ _ _) List.length_append rfl hown1 hgrow (hat.imp id (by omega))
      have HP := Lib.hid hp; clear hp
      go_wp2
      go_end0
      rw [enc, ← List.append_assoc, ← HC'.out]
      exact ⟨rfl, _, HP.out.1, hs1.trans HP.out.2⟩
end Go.Proofs.YtjglnpijngdpkaaGreatDoor
/-
  bits: what a slice of words reads as; possible, bit, wordsFor, word, words, Empty, trim.
-/
namespace Go.Proofs.YtjglnpijngdpkaaGreatDoor
open Go.RowKit

/-- The value reads as these words: a nil slice and no word, or a slice whose cells hold them. -/
def Words (w : World) (v : Value) (xs : List Nat) : Prop :=
  (v = .slice none 0 0 ∧ xs = []) ∨
  ∃ g off cap, v = .slice (some ⟨g, off, none⟩) xs.length cap ∧ xs.length ≤ cap ∧ cap ≤ maxLen ∧ g < w.heap.size ∧
    ∀ i, i < xs.length → w.cell? ⟨g, off + i, none⟩ = some (.int .u64 (xs.getD i 0 : Nat))

theorem Words.kept {S : Nat → Prop} {a b : World} {v : Value} {xs : List Nat} (h : Words a v xs) (hk : Kept S a b) (hn : ∀ k, v.ownBlock = some k → ¬ S k) : Words b v xs := by
  rcases h with h | ⟨g, off, cap, rfl, h1, h2, h3, h4⟩
  · exact Or.inl h
  · exact Or.inr ⟨g, off, cap, rfl, h1, h2, Nat.lt_of_lt_of_le h3 hk.size, fun i hi => (hk.cell h3 (hn g rfl)).trans (h4 i hi)⟩

theorem Words.lt {w : World} {v : Value} {xs : List Nat} (h : Words w v xs) : ∀ k, v.ownBlock = some k → k < w.heap.size := by
  intro k hk
  rcases h with ⟨rfl, _⟩ | ⟨g, off, cap, rfl, _, _, h3, _⟩
  · simp [Value.ownBlock] at hk
  · simp [Value.ownBlock] at hk; subst hk; exact h3

theorem Words.form {w : World} {v : Value} {xs : List Nat} (h : Words w v xs) : ∃ a c, v = .slice a xs.length c := by
  rcases h with ⟨rfl, rfl⟩ | ⟨g, off, cap, rfl, _⟩
  · exact ⟨_, _, rfl⟩
  · exact ⟨_, _, rfl⟩

/-- A set's word number k. -/
def wd (lo : Nat) (hs : List Nat) (k : Nat) : Nat := if k = 0 then lo else hs.getD (k - 1) 0

/-- Where 'trim' stops. -/
structure TrimAt (ws : List Nat) (n : Nat) : Prop where
  le : n ≤ ws.length
  zero : ∀ i, n ≤ i → i < ws.length → ws.getD i 0 = 0
  last : n = 0 ∨ ws.getD (n - 1) 0 ≠ 0

/-- What 'trim' gives: the words up to the last one that is not 0; nil if none is left. -/
structure TrimRes (w : World) (v : Value) (ws : List Nat) (v' : Value) : Prop where
  ex : ∃ n, TrimAt ws n ∧ Words w v' (ws.take n) ∧ (n = 0 → v' = .slice none 0 0) ∧ (v'.ownBlock = none ∨ v'.ownBlock = v.ownBlock)

theorem TrimRes.form {w : World} {v : Value} {ws : List Nat} {v' : Value} (h : TrimRes w v ws v') : ∃ a n c, v' = .slice a n c := by
  obtain ⟨n, _, hw, _⟩ := h.ex
  obtain ⟨a, c, e⟩ := hw.form
  exact ⟨_, _, _, e⟩

end Go.Proofs.YtjglnpijngdpkaaGreatDoor
/-
  Plain words on sets as numbers (bit i is set exactly if i is a member), their words and bytes. No program is named here.
-/
namespace Go.Proofs.YtjglnpijngdpkaaGreatDoor

/-- The first n words of a number. -/
def wl (M n : Nat) : List Nat := (List.range n).map fun k => M / 2 ^ (64 * k) % 2 ^ 64
/-- The first n bytes of a number. -/
def bl8 (M n : Nat) : List Nat := (List.range n).map fun k => M / 2 ^ (8 * k) % 256
def addM (M : Nat) (i : Int) : Nat := if 0 ≤ i ∧ i ≤ 4095 then M ||| 2 ^ i.toNat else M
/-- The set of a list's possible members. -/
def maskOf (l : List Int) : Nat := l.foldl addM 0
/-- The greatest possible member of a list, or -1. -/
def gOf (l : List Int) : Int := l.foldl (fun m i => if 0 ≤ i ∧ i ≤ 4095 then max m i else m) (-1)

theorem wl_length (M n : Nat) : (wl M n).length = n := by simp [wl]
theorem wl_getD (M n k : Nat) (h : k < n) : (wl M n).getD k 0 = M / 2 ^ (64 * k) % 2 ^ 64 := by simp [wl, List.getD, h]
theorem wl_zero (n : Nat) : wl 0 n = List.replicate n 0 := by
  refine List.ext_getElem (by simp [wl]) fun i h1 h2 => ?_
  simp [wl]
theorem bl8_length (M n : Nat) : (bl8 M n).length = n := by simp [bl8]
theorem wl_take (M n t : Nat) (h : t ≤ n) : (wl M n).take t = wl M t := by
  refine List.ext_getElem (by simp [wl, h]) fun i h1 h2 => ?_
  simp [wl]
theorem wl_drop1 (M n : Nat) : (wl M n).drop 1 = wl (M / 2 ^ 64) (n - 1) := by
  refine List.ext_getElem (by simp [wl]) fun i h1 h2 => ?_
  simp only [wl, List.getElem_drop, List.getElem_map, List.getElem_range, Nat.div_div_eq_div_mul, ← Nat.pow_add]
  rw [show 64 * (1 + i) = 64 + 64 * i by omega]

theorem word_or (M i k : Nat) : (M ||| 2 ^ i) / 2 ^ (64 * k) % 2 ^ 64 = if k = i / 64 then (M / 2 ^ (64 * k) % 2 ^ 64) ||| 2 ^ (i % 64) else M / 2 ^ (64 * k) % 2 ^ 64 := by
  refine Nat.eq_of_testBit_eq fun j => ?_
  rw [Nat.testBit_mod_two_pow, Nat.testBit_div_two_pow, Nat.testBit_or, Nat.testBit_two_pow]
  split
  · rename_i hk
    rw [Nat.testBit_or, Nat.testBit_mod_two_pow, Nat.testBit_div_two_pow, Nat.testBit_two_pow]
    by_cases hj : j < 64
    · have : (i = j + 64 * k) ↔ (i % 64 = j) := by omega
      simp [hj, this]
    · have : ¬ (i % 64 = j) := by omega
      simp [hj, this]
  · rename_i hk
    rw [Nat.testBit_mod_two_pow, Nat.testBit_div_two_pow]
    by_cases hj : j < 64
    · have : ¬ (i = j + 64 * k) := by omega
      simp [this]
    · simp [hj]

theorem wl_or (M n i : Nat) (_h : i / 64 < n) : (wl M n).set (i / 64) ((wl M n).getD (i / 64) 0 ||| 2 ^ (i % 64)) = wl (M ||| 2 ^ i) n := by
  refine List.ext_getElem (by simp [wl]) fun k h1 h2 => ?_
  have hk : k < n := by simpa [wl] using h2
  rw [List.getElem_set]
  have e : (wl (M ||| 2 ^ i) n)[k] = (M ||| 2 ^ i) / 2 ^ (64 * k) % 2 ^ 64 := by simp [wl]
  rw [e, word_or]
  by_cases hq : i / 64 = k
  · rw [if_pos hq, if_pos hq.symm, wl_getD _ _ _ (by omega), hq]
  · rw [if_neg hq, if_neg (fun h => hq h.symm)]
    simp [wl]

theorem maskOf_take (l : List Int) (k : Nat) (h : k < l.length) : maskOf (l.take (k + 1)) = addM (maskOf (l.take k)) (l.getD k 0) := by
  rw [List.take_succ_eq_append_getElem h, maskOf, List.foldl_append]
  simp [maskOf, List.getD, h]
theorem gOf_take (l : List Int) (k : Nat) (h : k < l.length) : gOf (l.take (k + 1)) = if 0 ≤ l.getD k 0 ∧ l.getD k 0 ≤ 4095 then max (gOf (l.take k)) (l.getD k 0) else gOf (l.take k) := by
  rw [List.take_succ_eq_append_getElem h, gOf, List.foldl_append]
  simp [gOf, List.getD, h]

theorem foldl_gOf (l : List Int) : ∀ m : Int, -1 ≤ m → m ≤ 4095 →
    -1 ≤ l.foldl (fun m i => if 0 ≤ i ∧ i ≤ 4095 then max m i else m) m ∧ l.foldl (fun m i => if 0 ≤ i ∧ i ≤ 4095 then max m i else m) m ≤ 4095 ∧ m ≤ l.foldl (fun m i => if 0 ≤ i ∧ i ≤ 4095 then max m i else m) m ∧
    ∀ i ∈ l, 0 ≤ i ∧ i ≤ 4095 → i ≤ l.foldl (fun m i => if 0 ≤ i ∧ i ≤ 4095 then max m i else m) m := by
  induction l with
  | nil => intro m h1 h2; simp; omega
  | cons x t ih =>
    intro m h1 h2
    simp only [List.foldl_cons]
    by_cases hx : 0 ≤ x ∧ x ≤ 4095
    · rw [if_pos hx]
      have ⟨a, b, c, d⟩ := ih (max m x) (by omega) (by omega)
      refine ⟨a, b, by omega, fun i hi hp => ?_⟩
      rcases List.mem_cons.1 hi with rfl | hi
      · omega
      · exact d i hi hp
    · rw [if_neg hx]
      have ⟨a, b, c, d⟩ := ih m h1 h2
      refine ⟨a, b, c, fun i hi hp => ?_⟩
      rcases List.mem_cons.1 hi with rfl | hi
      · exact absurd hp hx
      · exact d i hi hp

theorem gOf_bounds (l : List Int) : -1 ≤ gOf l ∧ gOf l ≤ 4095 := by
  have ⟨a, b, _, _⟩ := foldl_gOf l (-1) (by omega) (by omega)
  exact ⟨a, b⟩
theorem gOf_ge (l : List Int) (i : Int) (hi : i ∈ l) (h0 : 0 ≤ i) (h1 : i ≤ 4095) : i ≤ gOf l := by
  have ⟨_, _, _, d⟩ := foldl_gOf l (-1) (by omega) (by omega)
  exact d i hi ⟨h0, h1⟩

theorem mask_lt_fold (n : Nat) (l : List Int) : ∀ M : Nat, M < 2 ^ (64 * n) → (∀ i ∈ l, 0 ≤ i → i ≤ 4095 → i.toNat / 64 < n) → l.foldl addM M < 2 ^ (64 * n) := by
  induction l with
  | nil => intro M h _; simpa using h
  | cons x t ih =>
    intro M h hl
    rw [List.foldl_cons]
    refine ih _ ?_ fun i hi => hl i (List.mem_cons_of_mem _ hi)
    unfold addM
    split
    · rename_i hx
      have := hl x List.mem_cons_self hx.1 hx.2
      exact Nat.or_lt_two_pow h (Nat.pow_lt_pow_right (by omega) (by omega))
    · exact h

/-- A list's set has room in as many words as its greatest member asks for. -/
theorem mask_lt (l : List Int) : maskOf l < 2 ^ (64 * ((gOf l + 64) / 64).toNat) := by
  have hb := gOf_bounds l
  refine mask_lt_fold _ l 0 (Nat.pow_pos (by omega)) fun i hi h0 h1 => ?_
  have := gOf_ge l i hi h0 h1
  omega

/-- The words hs are those of M, the last one not 0. -/
structure Canon (hs : List Nat) (M : Nat) : Prop where
  eq : hs = wl M hs.length
  lt : M < 2 ^ (64 * hs.length)
  last : hs.length = 0 ∨ M / 2 ^ (64 * (hs.length - 1)) ≠ 0

theorem zero_above (M m t : Nat) (hM : M < 2 ^ (64 * m)) (hz : ∀ i, t ≤ i → i < m → M / 2 ^ (64 * i) % 2 ^ 64 = 0) (ht : t ≤ m) : M < 2 ^ (64 * t) := by
  obtain ⟨d, rfl⟩ : ∃ d, m = t + d := ⟨m - t, by omega⟩
  clear ht
  induction d with
  | zero => simpa using hM
  | succ d ih =>
    refine ih ?_ fun i h1 h2 => hz i h1 (by omega)
    have h0 := hz (t + d) (by omega) (by omega)
    have e : 2 ^ (64 * (t + (d + 1))) = 2 ^ (64 * (t + d)) * 2 ^ 64 := by rw [← Nat.pow_add]; congr 1
    rw [e] at hM
    have hp : 0 < 2 ^ (64 * (t + d)) := Nat.pow_pos (by omega)
    have h2 : M / 2 ^ (64 * (t + d)) < 2 ^ 64 := Nat.div_lt_of_lt_mul hM
    rw [Nat.mod_eq_of_lt h2] at h0
    have := Nat.div_eq_zero_iff.1 h0
    omega

/-- The set is empty exactly if its number is 0. -/
theorem Canon.nil {hs : List Nat} {M : Nat} (h : Canon hs M) : hs.length = 0 ↔ M = 0 := by
  constructor
  · intro e; have := h.lt; rw [e] at this; simpa using this
  · rintro rfl
    rcases h.last with e | e
    · exact e
    · simp at e

/-- A set's word number k, of its low word and the others. -/
theorem wd_word (M : Nat) (hs : List Nat) (h : Canon hs (M / 2 ^ 64)) (k : Nat) : (if k = 0 then M % 2 ^ 64 else hs.getD (k - 1) 0) = M / 2 ^ (64 * k) % 2 ^ 64 := by
  by_cases h0 : k = 0
  · subst h0; simp
  · rw [if_neg h0]
    have e : M / 2 ^ (64 * k) = M / 2 ^ 64 / 2 ^ (64 * (k - 1)) := by
      rw [Nat.div_div_eq_div_mul, ← Nat.pow_add]; congr 2; omega
    rw [e]
    by_cases hk : k - 1 < hs.length
    · rw [h.eq, wl_getD _ _ _ hk]
    · rw [show hs.getD (k - 1) 0 = 0 by simp [List.getD, List.getElem?_eq_none (show hs.length ≤ k - 1 by omega)]]
      have : M / 2 ^ 64 < 2 ^ (64 * (k - 1)) := Nat.lt_of_lt_of_le h.lt (Nat.pow_le_pow_right (by omega) (by omega))
      rw [Nat.div_eq_of_lt this]

/-- The top word, and the greatest member. -/
theorem top_eq (M : Nat) (hs : List Nat) (h : Canon hs (M / 2 ^ 64)) (h0 : M ≠ 0) (y : Nat) (hy : y = if hs.length = 0 then M % 2 ^ 64 else hs.getD (hs.length - 1) 0) :
    1 ≤ Lib.bitLen y ∧ Lib.bitLen y ≤ 64 ∧ y < 2 ^ 64 ∧ 64 * hs.length + Lib.bitLen y - 1 = Nat.log2 M := by
  rw [wd_word M hs h hs.length] at hy
  have hlt : M < 2 ^ (64 * hs.length) * 2 ^ 64 := by
    have := h.lt
    rw [Nat.mul_comm]
    exact (Nat.div_lt_iff_lt_mul (Nat.pow_pos (by omega))).1 this |> fun e => by rw [Nat.mul_comm]; exact e
  have hp : 0 < 2 ^ (64 * hs.length) := Nat.pow_pos (by omega)
  have hy1 : M / 2 ^ (64 * hs.length) < 2 ^ 64 := Nat.div_lt_of_lt_mul hlt
  rw [Nat.mod_eq_of_lt hy1] at hy
  have hy0 : y ≠ 0 := by
    rw [hy]
    rcases h.last with e | e
    · rw [e]; simpa using h0
    · intro e2
      refine e ?_
      by_cases h1 : hs.length = 0
      · have := h.nil.1 h1
        rw [this]; simp
      · rw [Nat.div_div_eq_div_mul, ← Nat.pow_add, show 64 + 64 * (hs.length - 1) = 64 * hs.length by omega]; exact e2
  have ⟨b1, b2, b3⟩ := Lib.bitLenAux_bounds 64 y (by rw [hy]; exact hy1) hy0
  have b4 : Lib.bitLen y ≤ 64 := Lib.bitLen_le y 64 (by omega) (by rw [hy]; exact hy1)
  change 1 ≤ Lib.bitLen y at b1
  change 2 ^ (Lib.bitLen y - 1) ≤ y at b2
  change y < 2 ^ Lib.bitLen y at b3
  refine ⟨b1, b4, by rw [hy]; exact hy1, ?_⟩
  refine ((Nat.log2_eq_iff h0).2 ⟨?_, ?_⟩).symm
  · rw [show 64 * hs.length + Lib.bitLen y - 1 = 64 * hs.length + (Lib.bitLen y - 1) by omega, Nat.pow_add]
    refine Nat.le_trans (Nat.mul_le_mul_left _ b2) ?_
    rw [hy]; exact Nat.mul_div_le _ _
  · rw [show 64 * hs.length + Lib.bitLen y - 1 + 1 = 64 * hs.length + Lib.bitLen y by omega, Nat.pow_add]
    have b3' : M / 2 ^ (64 * hs.length) < 2 ^ Lib.bitLen y := by rw [← hy]; exact b3
    exact Nat.lt_of_lt_of_le (Nat.lt_mul_of_div_lt (Nat.lt_succ_self _) hp) (by rw [Nat.mul_comm]; exact Nat.mul_le_mul_left _ b3')

/-- A byte of a word is a byte of the set. -/
theorem byte_word (M k : Nat) : M / 2 ^ (64 * (k / 8)) % 2 ^ 64 / 2 ^ (8 * (k % 8)) % 256 = M / 2 ^ (8 * k) % 256 := by
  rw [show (256 : Nat) = 2 ^ 8 from rfl]
  refine Nat.eq_of_testBit_eq fun j => ?_
  rw [Nat.testBit_mod_two_pow, Nat.testBit_div_two_pow, Nat.testBit_mod_two_pow, Nat.testBit_div_two_pow, Nat.testBit_mod_two_pow, Nat.testBit_div_two_pow]
  by_cases hj : j < 8
  · have h1 : j + 8 * (k % 8) < 64 := by omega
    have h2 : j + 8 * (k % 8) + 64 * (k / 8) = j + 8 * k := by omega
    simp [hj, h1, h2]
  · simp [hj]

theorem bl8_getD (M n k : Nat) (h : k < n) : (bl8 M n).getD k 0 = M / 2 ^ (8 * k) % 256 := by simp [bl8, List.getD, h]

theorem bl8_set (M n k : Nat) (h : k < n) : (bl8 M k ++ List.replicate (n - k) 0).set k (M / 2 ^ (8 * k) % 256) = bl8 M (k + 1) ++ List.replicate (n - (k + 1)) 0 := by
  refine List.ext_getElem (by simp [bl8]; omega) fun i h1 h2 => ?_
  rw [List.getElem_set]
  by_cases hik : k = i
  · subst hik
    rw [if_pos rfl, List.getElem_append_left (by simp [bl8])]
    simp [bl8]
  · rw [if_neg hik]
    by_cases hlt : i < k
    · rw [List.getElem_append_left (by simpa [bl8] using hlt), List.getElem_append_left (by simp [bl8]; omega)]
      simp [bl8]
    · rw [List.getElem_append_right (by simp [bl8]; omega), List.getElem_append_right (by simp [bl8]; omega)]
      simp

/-- The bytes of a set. -/
def bytesOf (M : Nat) : List Nat := if M = 0 then [] else bl8 M (Nat.log2 M / 8 + 1)

theorem bytesOf_byte (M : Nat) : ∀ b ∈ bytesOf M, b < 256 := by
  unfold bytesOf
  split
  · simp
  · intro b hb
    simp only [bl8, List.mem_map] at hb
    obtain ⟨i, _, rfl⟩ := hb
    omega

/-- No member is above 4095. -/
def Small (M : Nat) : Prop := ∀ e, 4096 ≤ e → M < 2 ^ e

theorem maskOf_small (l : List Int) : Small (maskOf l) := by
  intro e he
  have h1 := mask_lt l
  have hb := gOf_bounds l
  have h2 : 64 * ((gOf l + 64) / 64).toNat ≤ e := by omega
  exact Nat.lt_of_lt_of_le h1 (Nat.pow_le_pow_right (Nat.succ_pos 1) h2)

theorem log2_small {M : Nat} (h : Small M) (h0 : M ≠ 0) : Nat.log2 M < 4096 := by
  obtain ⟨e, he⟩ : ∃ e : Nat, e = 4096 := ⟨_, rfl⟩
  rw [← he]
  exact (Nat.log2_lt h0).2 (h e (by omega))

theorem Canon.small {hs : List Nat} {M : Nat} (h : Canon hs (M / 2 ^ 64)) (hM : Small M) : hs.length ≤ 63 := by
  rcases h.last with e | e
  · rw [e]; exact Nat.zero_le _
  · by_cases hlt : hs.length ≤ 63
    · exact hlt
    · exfalso
      refine e ?_
      rw [Nat.div_div_eq_div_mul, ← Nat.pow_add]
      have h4 : 4096 ≤ 64 + 64 * (hs.length - 1) := by omega
      exact Nat.div_eq_of_lt (hM _ h4)

end Go.Proofs.YtjglnpijngdpkaaGreatDoor
/-
  bits.Of: the set of some numbers.
-/
namespace Go.Proofs.YtjglnpijngdpkaaGreatDoor
open Go.RowKit

/-- The value reads as these numbers. -/
def Ints (w : World) (v : Value) (xs : List Int) : Prop :=
  (v = .slice none 0 0 ∧ xs = []) ∨
  ∃ g off cap, v = .slice (some ⟨g, off, none⟩) xs.length cap ∧ xs.length ≤ cap ∧ cap ≤ maxLen ∧ g < w.heap.size ∧
    ∀ i, i < xs.length → w.cell? ⟨g, off + i, none⟩ = some (.int .i64 (xs.getD i 0))

theorem Ints.kept {S : Nat → Prop} {a b : World} {v : Value} {xs : List Int} (h : Ints a v xs) (hk : Kept S a b) (hn : ∀ k, v.ownBlock = some k → ¬ S k) : Ints b v xs := by
  rcases h with h | ⟨g, off, cap, rfl, h1, h2, h3, h4⟩
  · exact Or.inl h
  · exact Or.inr ⟨g, off, cap, rfl, h1, h2, Nat.lt_of_lt_of_le h3 hk.size, fun i hi => (hk.cell h3 (hn g rfl)).trans (h4 i hi)⟩

/-- The value is the set of the number M. -/
structure SetV (w : World) (v : Value) (M : Nat) : Prop where
  ex : ∃ hv hs, v = .agg #[.int .u64 (M % 2 ^ 64 : Nat), hv] ∧ Words w hv hs ∧ Canon hs (M / 2 ^ 64) ∧ (hs = [] → hv = .slice none 0 0)

/-- The blocks that a set lies in. -/
def setBlk (v : Value) (k : Nat) : Prop := ∃ lo hv, v = .agg #[lo, hv] ∧ hv.ownBlock = some k

theorem TrimAt.canon {M m n : Nat} (h : TrimAt (wl M m) n) (hM : M < 2 ^ (64 * m)) : Canon ((wl M m).take n) M := by
  have hle := h.le
  rw [wl_length] at hle
  rw [wl_take _ _ _ hle]
  refine ⟨by rw [wl_length], ?_, ?_⟩
  · rw [wl_length]
    exact zero_above M m n hM (fun i h1 h2 => by rw [← wl_getD M m i h2]; exact h.zero i h1 (by rw [wl_length]; exact h2)) hle
  · rw [wl_length]
    rcases h.last with h0 | h0
    · exact Or.inl h0
    · by_cases hn : n = 0
      · exact Or.inl hn
      · rw [wl_getD _ _ _ (by omega)] at h0
        exact Or.inr fun e => h0 (by rw [e])

/-- What 'pack' gives of words whose first one is lo. -/
structure PackRes (w : World) (g : Nat) (ws : List Nat) (hv : Value) : Prop where
  ex : ∃ t, TrimAt (ws.drop 1) t ∧ Words w hv ((ws.drop 1).take t) ∧ (t = 0 → hv = .slice none 0 0) ∧ (hv.ownBlock = none ∨ hv.ownBlock = some g)

/-- The cells of a list of words. -/
def wv (xs : List Nat) : List Value := xs.map fun n : Nat => Value.int .u64 (n : Int)

theorem info_u64 : (Tryz.prog.info? 45).map (fun i => (i.zero, i.size, i.bytes)) = some (some (.int .u64 0), 1, 8) := by kernel_rfl

theorem wv_zero (n : Nat) : (madeCells #[Value.int .u64 0] n).toList = wv (List.replicate n 0) := by
  refine List.ext_getElem (by simp [madeCells, wv]) fun i h1 h2 => ?_
  simp [madeCells, wv, Nat.mod_one]

theorem wv_length (xs : List Nat) : (wv xs).length = xs.length := by simp [wv]
theorem wv_getD (xs : List Nat) (i : Nat) (h : i < xs.length) : (wv xs)[i]? = some (.int .u64 (xs.getD i 0 : Nat)) := by simp [wv, List.getD, h]
theorem wv_set (xs : List Nat) (i z : Nat) : (wv xs).set i (.int .u64 (z : Int)) = wv (xs.set i z) := by simp [wv]

end Go.Proofs.YtjglnpijngdpkaaGreatDoor
/-
  (bits.Set).Greatest and (bits.Set).Bytes.
-/
namespace Go.Proofs.YtjglnpijngdpkaaGreatDoor
open Go.RowKit

theorem bv_set (xs : List Nat) (i z : Nat) : (bv xs).set i (.int .u8 (z : Int)) = bv (xs.set i z) := by simp [bv]
theorem bv_getD (xs : List Nat) (i : Nat) (h : i < xs.length) : (bv xs)[i]? = some (.int .u8 (xs.getD i 0 : Nat)) := by simp [bv, List.getD, h]
theorem bv_zero (n : Nat) : (madeCells #[Value.int .u8 0] n).toList = bv (List.replicate n 0) := by
  refine List.ext_getElem (by simp [madeCells, bv]) fun i h1 h2 => ?_
  simp [madeCells, bv, Nat.mod_one]
theorem info_u8b : (Tryz.prog.info? 5).map (fun i => (i.zero, i.size, i.bytes)) = some (some (.int .u8 0), 1, 1) := by kernel_rfl

theorem pad_getD (M k m : Nat) : (bl8 M k ++ List.replicate m 0).getD k 0 = 0 := by
  rw [List.getD_eq_getElem?_getD, List.getElem?_append_right (by simp [bl8])]
  simp only [bl8_length, Nat.sub_self, List.getElem?_replicate]
  split <;> rfl

theorem byte_shift (y S b : Nat) (h : b = y / 2 ^ S % 256) : IntKind.u8.wrap ((y : Int) / 2 ^ S) = (b : Int) := by
  rw [IntKind.wrap_u8', h]
  simp

end Go.Proofs.YtjglnpijngdpkaaGreatDoor
/-
  'append' of a string's bytes to an owned row, with the word where the new row lies (the library's law says no such word): at the run, and at the operation.
-/
namespace Go.Proofs.YtjglnpijngdpkaaGreatDoor
open Go.Lib

theorem run_str_at {P : Program} (w : World) (base : Nat) (t u ty e : TypeId) (i : TypeInfo) (ht : P.underlying t = some (.slice e)) (hu : P.underlying u = some .string) (hi : P.info? e = some i) (hz : i.zero = some (.int .u8 0))
    (hsize : i.size = 1) (hby : i.bytes = 1) (v : Value) (n : Nat) (xs : List Value) (hown : w.ownsRow base e 1 v n xs) (s : ByteArray)
    (hb : n + s.size ≤ 140737488355328) (hbase : base ≤ w.heap.size) :
    ∃ v' w', (Builtin.append_ #[t, u] ty #[v, .string s]).run P w = .ok v' w' ∧ w'.ownsRow base e 1 v' (n + s.size) (xs ++ strCells s) ∧ w.grownBy w' v.ownBlock ∧
      (v'.ownBlock = v.ownBlock ∨ v'.ownBlock = some w.heap.size) := by
  obtain ⟨v', w', hr, h2, h3, h4⟩ := run_append_own_string (P := P) w base t u ty e i ht hu hi hz hsize hby v n xs hown s (by unfold maxLen; omega) hb hbase
  refine ⟨v', w', hr, h2, h3, ?_⟩
  have hxl : xs.length = n := by simpa using hown.1
  rcases hown.2 with ⟨rfl, rfl⟩ | ⟨g, cap, cur, rfl, hbg, hg, hnc, hcm, hcs, htake⟩
  · by_cases hs : s.size = 0
    · exact Or.inl (by rw [h4.2 ⟨rfl, hs⟩])
    · have h := run_append_nil_string (P := P) w t u ty e i (.int .u8 0) ht hu hi hz s (by omega) (by omega) (by rw [hby]; omega)
      rw [hr] at h
      exact Or.inr (by injection h with h; rw [h]; rfl)
  · by_cases hroom : n + s.size ≤ cap
    · have h := run_append_room_string (P := P) w t u ty e i ht hu hi hsize g n cap cur hg s hroom (by omega)
      rw [hr] at h
      exact Or.inl (by injection h with h; rw [h]; rfl)
    · have holds : ∀ j u, xs[j]? = some u → w.cell? ((⟨g, 0, none⟩ : Addr).add j) = some u := hown.cells (g := g) rfl
      have h := run_append_grow_string (P := P) w t u ty e i (.int .u8 0) ht hu hi hz ⟨g, 0, none⟩ n cap xs (by rw [hsize]; simpa using hxl) holds s (by omega) (by omega) (by rw [hby]; exact growslice_fits (by omega) (by omega))
      rw [hr] at h
      exact Or.inr (by injection h with h; rw [h]; rfl)

theorem wp_str_at {P : Program} (w : World) {ops : Array Oper} {rest : List Oper} {o : Oper} {a : Act} {Q : Exit → Act → World → Prop} (hgd : o.guard = none) (sl x : Operand) (t u : TypeId)
    (ho : o.op = .call { callee := .builtin .append, args := #[sl, x], argTypes := #[t, u] })
    (base : Nat) (e : TypeId) (i : TypeInfo) (ht : P.underlying t = some (.slice e)) (hu : P.underlying u = some .string) (hi : P.info? e = some i) (hz : i.zero = some (.int .u8 0))
    (hsize : i.size = 1) (hby : i.bytes = 1) (v : Value) (n : Nat) (xs : List Value) (hs : a.eval sl = v) (hown : w.ownsRow base e 1 v n xs) (s : ByteArray) (hx : a.eval x = .string s)
    (hb : n + s.size ≤ 140737488355328) (hbase : base ≤ w.heap.size)
    (h : ∀ v' w', w'.ownsRow base e 1 v' (n + s.size) (xs ++ strCells s) → w.grownBy w' v.ownBlock → (v'.ownBlock = v.ownBlock ∨ v'.ownBlock = some w.heap.size) → wpList P ops Q rest (a.put o.dst v') w') : wpList P ops Q (o :: rest) a w := by
  refine wpList_plain hgd fun K hK => ?_
  obtain ⟨v', w', hr, h2, h3, h4⟩ := run_str_at (P := P) w base t u o.type e i ht hu hi hz hsize hby v n xs hown s hb hbase
  unfold Oper.wp
  simp [execOp, ho, resolve, invoke, builtin, hs, hx, hr, Result.andThen]
  exact hK _ _ (h v' w' h2 h3 h4)

end Go.Proofs.YtjglnpijngdpkaaGreatDoor
/-
  wire.Writer: Int, String, Raw, Bytes, Set.
-/
namespace Go.Proofs.YtjglnpijngdpkaaGreatDoor
open Go.RowKit

/-- The number that is written for one with a sign. -/
def zz (v : Int) : Nat := if v < 0 then 2 * (-(v + 1)).toNat + 1 else 2 * v.toNat

theorem zz_lt (v : Int) (hv : -9223372036854775808 ≤ v ∧ v < 9223372036854775808) : zz v < 18446744073709551616 := by
  unfold zz
  split <;> omega

theorem zz_neg (v : Int) (h0 : v < 0) (hv : -9223372036854775808 ≤ v ∧ v < 9223372036854775808) :
    bits .or .u64 (IntKind.u64.wrap (IntKind.u64.wrap (wrap64 (-wrap64 (v + 1))) * 2)) 1 = (zz v : Int) := by
  obtain ⟨m, hm⟩ : ∃ m : Nat, m = (-(v + 1)).toNat := ⟨_, rfl⟩
  have hz : zz v = 2 * m + 1 := by rw [zz, if_pos h0, hm]
  rw [hz, IntWalk.wrap64_in (v + 1) (by omega), IntWalk.wrap64_in _ (by omega), IntWalk.u64_in (-(v + 1)) (by omega), IntWalk.u64_in _ (by omega),
    show (-(v + 1)) * 2 = ((2 * m : Nat) : Int) by omega, show (1 : Int) = ((1 : Nat) : Int) from rfl, u64_or_nat _ _ (by omega) (by omega), nat_join 1 _ _ (by omega) (by omega)]

theorem zz_pos (m : Nat) (hv : -9223372036854775808 ≤ (m : Int) ∧ (m : Int) < 9223372036854775808) :
    IntKind.u64.wrap (IntKind.u64.wrap (m : Int) * 2) = (zz (m : Int) : Int) := by
  rw [zz, if_neg (by omega), Int.toNat_natCast, IntWalk.u64_in (m : Int) (by omega), IntWalk.u64_in _ (by omega)]
  omega

/-- Behind an append whose law says where the new row lies: the writer's cell is stored. -/
theorem wr_push2 {w w1 : World} {wb : Nat} {v v' : Value} {B : Nat} {xs ys : List Nat} {N m : Nat} (h : Wr w wb v B xs) (hN : xs.length = N) (hm : ys.length = m)
    (hown : w1.ownsRow B 5 1 v' (N + m) (bv xs ++ bv ys)) (hgrow : w.grownBy w1 v.ownBlock) (hat : v'.ownBlock = v.ownBlock ∨ v'.ownBlock = some w.heap.size) :
    Wr (w1.setCell ⟨wb, 0, none⟩ v') wb v' B (xs ++ ys) ∧ WStep w (w1.setCell ⟨wb, 0, none⟩ v') wb v v' := by
  subst hN hm
  refine wr_push h (Kept.refl _ _) hown hgrow (fun k hk => ?_) ?_
  · rcases hat with e | e
    · exact Or.inl (by rw [← e]; exact hk)
    · rw [e] at hk; cases hk; exact Or.inr (Nat.le_refl _)
  · rcases hat with e | e
    · exact Or.inl e.symm
    · exact Or.inr fun k hk => by rw [e] at hk; cases hk; exact Nat.le_refl _

theorem own_form {w : World} {B : Nat} {e : TypeId} {v : Value} {n : Nat} {xs : List Value} (h : w.ownsRow B e 1 v n xs) : ∃ a c, v = .slice a n c := by
  rcases h.2 with ⟨rfl, rfl⟩ | ⟨g, cap, cur, rfl, _⟩
  · exact ⟨_, _, rfl⟩
  · exact ⟨_, _, rfl⟩

set_option maxRecDepth 100000 in
set_option maxHeartbeats 400000 in
theorem raw_any (p : Value) (ys : List Nat) (w : World) (wb : Nat) (v : Value) (B : Nat) (xs : List Nat) (h : Wr w wb v B xs) (hp : Reads w p ys) (hl : xs.length + ys.length ≤ 140000000000000) (hB : B ≤ w.heap.size) :
    Calls Tryz.prog 73 #[.pointer (some ⟨wb, 0, none⟩), p] w fun e w' => e = .returned (.tuple #[]) ∧ ∃ v', Wr w' wb v' B (xs ++ ys) ∧ WStep w w' wb v v' := by
  obtain ⟨i0, hi, hz0, hz1, hz2⟩ := info_parts info_u8
  have hc := h.cell
  have hf := h.free
  obtain ⟨va, vc, hvf⟩ := own_form h.own
  have HH := Lib.hid h; clear h
  rcases hp with ⟨rfl, rfl⟩ | ⟨g, off, cap, rfl, h1, h2, h3, h4⟩
  · rw [List.append_nil]
    subst hvf
    go_enter Tryz.func73, Tryz.ntmps73
    go_wp2_with (at_builtin; refine wpList_append_own_none rfl _ _ _ rfl B 5 i0 1 Tryz.underlying52 hi _ _ _ rfl HH.out.own rfl ?_)
    go_wp2
    go_end0
    have hpush := wr_push2 (ys := []) HH.out rfl rfl (w1 := w) (v' := .slice va xs.length vc) (by simpa [bv] using HH.out.own) ⟨rfl, rfl, rfl, Nat.le_refl _, fun _ _ _ => rfl⟩ (Or.inl rfl)
    rw [List.append_nil] at hpush
    exact ⟨rfl, _, hpush.1, hpush.2⟩
  · have hnews : ∀ j u, (bv ys)[j]? = some u → w.cell? ((⟨g, off, none⟩ : Addr).add j) = some u := fun j u hu => by
      have hadd : (⟨g, off, none⟩ : Addr).add j = ⟨g, off + j, none⟩ := by unfold Addr.add; split <;> simp_all
      have hj : j < ys.length := by
        have := (List.getElem?_eq_some_iff.1 hu).1
        rwa [bv_length] at this
      rw [hadd, h4 j hj, ← bv_getD ys j hj]; exact hu
    have HNE := Lib.hid hnews; clear hnews h4
    have hap := HH.out.apart
    have hwlt := HH.out.lt
    have HC := Lib.hid hc; have HF := Lib.hid hf
    have HV := Lib.hid hvf
    subst hvf
    go_enter Tryz.func73, Tryz.ntmps73
    go_wp2_with (at_builtin; refine wpList_append_own_at _ rfl _ _ _ rfl B 5 i0 _ 1 1 Tryz.underlying52 hi hz0 hz1 hz2 rfl (by omega) _ _ _ rfl HH.out.own ⟨g, off, none⟩ ys.length cap (bv ys) rfl (by simp [bv_length]) HNE.out (bv_oneCell _) (by unfold maxLen; omega) (by omega) hB ?_)
    intro v' w1 hown1 hgrow _ hat
    have hcz : w1.cell? ⟨wb, 0, none⟩ = _ := (hgrow.cell_far ⟨wb, 0, none⟩ hwlt (Ne.symm hap)).trans HC.out
    have hfz : w1.frozen? ⟨wb, 0, none⟩ = false := (hgrow.frozen_far ⟨wb, 0, none⟩ hwlt (Ne.symm hap)).trans HF.out
    have hpush := wr_push2 HH.out rfl rfl hown1 hgrow hat
    obtain ⟨va', vc', hvf'⟩ := own_form hown1
    have HP := Lib.hid hpush; clear hpush hown1 hgrow hat
    subst hvf'
    go_wp2
    go_end0
    exact ⟨rfl, _, HP.out.1, HP.out.2⟩

set_option maxRecDepth 100000 in
set_option maxHeartbeats 400000 in
theorem wbytes_any (p : Value) (ys : List Nat) (w : World) (wb : Nat) (v : Value) (B : Nat) (xs : List Nat) (h : Wr w wb v B xs) (hp : Reads w p ys) (hpb : ∀ k, p.ownBlock = some k → k ≠ wb ∧ v.ownBlock ≠ some k)
    (hl : xs.length ≤ 90000000000000) (hy : ys.length ≤ 40000000000000) (hB : B ≤ w.heap.size) :
    Calls Tryz.prog 56 #[.pointer (some ⟨wb, 0, none⟩), p] w fun e w' => e = .returned (.tuple #[]) ∧ ∃ v', Wr w' wb v' B (xs ++ (enc ys.length ++ ys)) ∧ WStep w w' wb v v' := by
  obtain ⟨a, c, hform⟩ : ∃ a c, p = .slice a ys.length c := by
    rcases hp with ⟨rfl, rfl⟩ | ⟨g, off, cap, rfl, _⟩
    · exact ⟨_, _, rfl⟩
    · exact ⟨_, _, rfl⟩
  have hlen := enc_len (v := ys.length) (by omega)
  have HP := Lib.hid hp; clear hp
  have HH := Lib.hid h; clear h
  have HPB := Lib.hid hpb; clear hpb
  subst hform
  have hw : IntKind.u64.wrap ((ys.length : Nat) : Int) = ((ys.length : Nat) : Int) := IntWalk.u64_in _ (by omega)
  go_enter Tryz.func56, Tryz.ntmps56
  go_wp2_with fail
  refine (uint_any ys.length w wb v B xs HH.out (by omega) (by show ys.length < 18446744073709551616; omega)).mono ?_
  rintro e w1 ⟨rfl, v1, hw1, hs1⟩
  have hr1 : Reads w1 (.slice a ys.length c) ys := HP.out.kept hs1.kept fun k hk e => by
    rcases e with e | e
    · exact (HPB.out k hk).1 e
    · exact (HPB.out k hk).2 e
  have hB1 : B ≤ w1.heap.size := Nat.le_trans hB hs1.kept.size
  go_wp2_with fail
  refine (raw_any _ ys w1 wb v1 B _ hw1 hr1 (by simp; omega) hB1).mono ?_
  rintro e w2 ⟨rfl, v2, hw2, hs2⟩
  rw [List.append_assoc] at hw2
  have HW2 := Lib.hid hw2; have HS2 := Lib.hid hs2; clear hw2 hs2
  go_wp2
  go_end0
  exact ⟨rfl, _, HW2.out, hs1.trans HS2.out⟩

/-- A string's bytes. -/
def strB (s : ByteArray) : List Nat := s.data.toList.map UInt8.toNat
theorem strB_cells (s : ByteArray) : Lib.strCells s = bv (strB s) := by simp [Lib.strCells, bv, strB]
theorem strB_length (s : ByteArray) : (strB s).length = s.size := by
  rw [strB, List.length_map, Array.length_toList]; rfl

set_option maxRecDepth 100000 in
set_option maxHeartbeats 400000 in
theorem string_any (s : ByteArray) (w : World) (wb : Nat) (v : Value) (B : Nat) (xs : List Nat) (h : Wr w wb v B xs) (hl : xs.length ≤ 90000000000000) (hy : s.size ≤ 40000000000000) (hB : B ≤ w.heap.size) :
    Calls Tryz.prog 16 #[.pointer (some ⟨wb, 0, none⟩), .string s] w fun e w' => e = .returned (.tuple #[]) ∧ ∃ v', Wr w' wb v' B (xs ++ (enc s.size ++ strB s)) ∧ WStep w w' wb v v' := by
  obtain ⟨i0, hi, hz0, hz1, hz2⟩ := info_parts info_u8
  have hlen := enc_len (v := s.size) (by omega)
  have HH := Lib.hid h; clear h
  have hw : IntKind.u64.wrap ((s.size : Nat) : Int) = ((s.size : Nat) : Int) := IntWalk.u64_in _ (by omega)
  go_enter Tryz.func16, Tryz.ntmps16
  go_wp2_with fail
  refine (uint_any s.size w wb v B xs HH.out (by omega) (by show s.size < 18446744073709551616; omega)).mono ?_
  rintro e w1 ⟨rfl, v1, hw1, hs1⟩
  have hB1 : B ≤ w1.heap.size := Nat.le_trans hB hs1.kept.size
  have hc := hw1.cell
  have hf := hw1.free
  have hap := hw1.apart
  have hwlt := hw1.lt
  obtain ⟨va, vc, hvf⟩ := own_form hw1.own
  have HW1 := Lib.hid hw1; clear hw1
  have HC := Lib.hid hc; have HF := Lib.hid hf
  generalize hN : (xs ++ enc s.size).length = N at hvf
  have hNle : N ≤ 90000000000010 := by rw [← hN]; simp; omega
  have hown := HW1.out.own
  rw [hN] at hown
  have HO := Lib.hid hown; clear hown
  have HN := Lib.hid hN; clear hN
  subst hvf
  go_wp2_with (at_builtin; refine wp_str_at _ rfl _ _ _ _ rfl B 5 i0 Tryz.underlying52 Tryz.underlying9 hi hz0 hz1 hz2 _ _ _ rfl HO.out s rfl (by omega) hB1 ?_)
  intro v' w2 hown1 hgrow hat
  have hcz : w2.cell? ⟨wb, 0, none⟩ = _ := (hgrow.cell_far ⟨wb, 0, none⟩ hwlt (Ne.symm hap)).trans HC.out
  have hfz : w2.frozen? ⟨wb, 0, none⟩ = false := (hgrow.frozen_far ⟨wb, 0, none⟩ hwlt (Ne.symm hap)).trans HF.out
  rw [strB_cells] at hown1
  have hpush := wr_push2 HW1.out HN.out (strB_length s) hown1 hgrow hat
  obtain ⟨va', vc', hvf'⟩ := own_form hown1
  rw [List.append_assoc] at hpush
  have HP := Lib.hid hpush; clear hpush hown1 hgrow hat
  subst hvf'
  go_wp2
  go_end0
  exact ⟨rfl, _, HP.out.1, hs1.trans HP.out.2⟩

end Go.Proofs.YtjglnpijngdpkaaGreatDoor
/-
  Strings of bytes; wire.Writer.Flag.
-/
namespace Go.Proofs.YtjglnpijngdpkaaGreatDoor
open Go.RowKit

/-- A string of bytes. -/
def strOf (xs : List Nat) : ByteArray := strOfNums (xs.map fun n : Nat => (n : Int))

theorem strOf_bytes {xs : List Nat} (h : ∀ b ∈ xs, b < 256) : strB (strOf xs) = xs := by
  unfold strB strOf
  rw [strOfNums_data, List.map_map, List.map_map]
  conv => rhs; rw [← List.map_id xs]
  refine List.map_congr_left fun b hb => ?_
  simp [Nat.mod_eq_of_lt (h b hb)]

theorem strOf_size (xs : List Nat) : (strOf xs).size = xs.length := by
  unfold strOf
  rw [strOfNums_size]; simp

/-- The encoding of a flag. -/
def encFlag (b : Bool) : List Nat := if b then [1] else [0]

end Go.Proofs.YtjglnpijngdpkaaGreatDoor
