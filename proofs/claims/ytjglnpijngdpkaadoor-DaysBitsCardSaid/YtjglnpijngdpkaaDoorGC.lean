import Derived.Test.YtjglnpijngdpkaaDoorGE
import Derived.Test.YtjglnpijngdpkaaDoorBSeq
import Derived.Test.YtjglnpijngdpkaaDoorGA
import Derived.Laws.BitsAllLaws
import Derived.Deep.RegionHeld3
import Derived.Deep.DrawnRows
import Derived.Laws.MakeOwn
/-
  bits.Set.All: the members come in ascending order, one by one, as far as the consumer asks.
-/
namespace Go.Proofs.YtjglnpijngdpkaaDoor
open Go.RowKit Go.Shelf
attribute [local go_sem] Oper.semAt_some

theorem kept_grown {a b : World} (h : Kept (fun _ => False) a b) : a.grownBy b none :=
  ⟨h.os, h.tape, h.output, h.size, fun k hk _ => h.block k hk (fun h => h)⟩

/-- What the iterator reads: the set in its box, its words, the library's table. -/
structure AllAt (W : World) (B : Nat) (M : Nat) (hv : Value) (hs : List Nat) : Prop where
  c0 : W.cell? ⟨B, 0, none⟩ = some (.int .u64 (M % 2 ^ 64 : Nat))
  c1 : W.cell? ⟨B, 1, none⟩ = some hv
  words : Words W hv hs
  can : Canon hs (M / 2 ^ 64)
  tz : Tz W
theorem AllAt.kept {S : Nat → Prop} {a b : World} {B M : Nat} {hv : Value} {hs : List Nat} (h : AllAt a B M hv hs) (hk : Kept S a b) (h1 : ¬ S B) (h2 : ∀ k, hv.ownBlock = some k → ¬ S k) (h3 : ¬ S 0) : AllAt b B M hv hs := by
  have hB := World.block_lt_of_cell? a _ h.c0
  exact ⟨(hk.cell (p := ⟨B, 0, none⟩) hB h1).trans h.c0, (hk.cell (p := ⟨B, 1, none⟩) hB h1).trans h.c1, h.words.kept hk h2, h.can, h.tz.kept hk h3⟩
theorem AllAt.on {a b : World} {B M : Nat} {hv : Value} {hs : List Nat} (h : AllAt a B M hv hs) (hk : Kept (fun _ => False) a b) : AllAt b B M hv hs := h.kept hk (fun h => h) (fun _ _ h => h) (fun h => h)

/-- What a round's contract gives the iterator. -/
def RoundOf (l N : Nat) (Kp : World → World → Prop) (J Jx : List Int → World → Prop) : Prop :=
  ∀ pre x W, J pre W → pre.length < N → 0 ≤ x → x ≤ 4095 → YieldAt Fence.wide 1 Tryd.prog l #[Value.int .i64 x] W fun e W' =>
    (e = .returned (.bool true) ∧ J (pre ++ [x]) W' ∧ Kp W W') ∨ (e = .returned (.bool false) ∧ Jx (pre ++ [x]) W')

end Go.Proofs.YtjglnpijngdpkaaDoor
/-
  math/bits.OnesCount64: what it computes, step by step.
-/
namespace Go.Proofs.YtjglnpijngdpkaaDoor
open Go.RowKit

/-- What OnesCount64 computes. -/
def pop1 (x : Nat) : Nat := (x / 2 &&& 6148914691236517205) + (x &&& 6148914691236517205)
def pop2 (x : Nat) : Nat := (x / 4 &&& 3689348814741910323) + (x &&& 3689348814741910323)
def pop3 (x : Nat) : Nat := (x / 16 + x) &&& 1085102592571150095
def popS (x : Nat) : Nat :=
  (pop3 (pop2 (pop1 x)) + pop3 (pop2 (pop1 x)) / 256 + (pop3 (pop2 (pop1 x)) + pop3 (pop2 (pop1 x)) / 256) / 65536 + (pop3 (pop2 (pop1 x)) + pop3 (pop2 (pop1 x)) / 256 + (pop3 (pop2 (pop1 x)) + pop3 (pop2 (pop1 x)) / 256) / 65536) / 4294967296) &&& 127
theorem popS_le (x : Nat) : popS x ≤ 127 := Nat.and_le_right

set_option maxRecDepth 100000 in
set_option maxHeartbeats 1600000 in
theorem ones_any (x : Nat) (hx : x < 18446744073709551616) (w : World) : Calls Tryd.prog 69 #[.int .u64 x] w fun e w' => e = .returned (.int .i64 (popS x : Nat)) ∧ w = w' := by
  obtain ⟨a1, ha1⟩ : ∃ a, a = x / 2 &&& 6148914691236517205 := ⟨_, rfl⟩
  obtain ⟨b1, hb1⟩ : ∃ a, a = x &&& 6148914691236517205 := ⟨_, rfl⟩
  have la1 : a1 ≤ 6148914691236517205 := by rw [ha1]; exact Nat.and_le_right
  have lb1 : b1 ≤ 6148914691236517205 := by rw [hb1]; exact Nat.and_le_right
  obtain ⟨s1, hs1⟩ : ∃ a, a = a1 + b1 := ⟨_, rfl⟩
  obtain ⟨a2, ha2⟩ : ∃ a, a = s1 / 4 &&& 3689348814741910323 := ⟨_, rfl⟩
  obtain ⟨b2, hb2⟩ : ∃ a, a = s1 &&& 3689348814741910323 := ⟨_, rfl⟩
  have la2 : a2 ≤ 3689348814741910323 := by rw [ha2]; exact Nat.and_le_right
  have lb2 : b2 ≤ 3689348814741910323 := by rw [hb2]; exact Nat.and_le_right
  obtain ⟨s2, hs2⟩ : ∃ a, a = a2 + b2 := ⟨_, rfl⟩
  obtain ⟨q3, hq3⟩ : ∃ a, a = s2 / 16 + s2 := ⟨_, rfl⟩
  obtain ⟨s3, hs3⟩ : ∃ a, a = q3 &&& 1085102592571150095 := ⟨_, rfl⟩
  have ls3 : s3 ≤ 1085102592571150095 := by rw [hs3]; exact Nat.and_le_right
  obtain ⟨s4, hs4⟩ : ∃ a, a = s3 + s3 / 256 := ⟨_, rfl⟩
  obtain ⟨s5, hs5⟩ : ∃ a, a = s4 + s4 / 65536 := ⟨_, rfl⟩
  obtain ⟨s6, hs6⟩ : ∃ a, a = s5 + s5 / 4294967296 := ⟨_, rfl⟩
  obtain ⟨c, hc⟩ : ∃ a, a = s6 &&& 127 := ⟨_, rfl⟩
  have hfin : popS x = c := by
    have e3 : s3 = pop3 (pop2 (pop1 x)) := by
      rw [hs3, hq3, hs2, ha2, hb2, hs1, ha1, hb1]; rfl
    rw [hc, hs6, hs5, hs4, e3]; rfl
  rw [hfin]
  have hE : bits .and .u64 ((x : Int) / 2) 6148914691236517205 = (a1 : Int) ∧ bits .and .u64 (x : Int) 6148914691236517205 = (b1 : Int) ∧ IntKind.u64.wrap ((a1 : Int) + (b1 : Int)) = (s1 : Int) ∧
      bits .and .u64 ((s1 : Int) / 4) 3689348814741910323 = (a2 : Int) ∧ bits .and .u64 (s1 : Int) 3689348814741910323 = (b2 : Int) ∧ IntKind.u64.wrap ((a2 : Int) + (b2 : Int)) = (s2 : Int) ∧
      IntKind.u64.wrap ((s2 : Int) / 16 + (s2 : Int)) = (q3 : Int) ∧ bits .and .u64 (q3 : Int) 1085102592571150095 = (s3 : Int) ∧
      IntKind.u64.wrap ((s3 : Int) + (s3 : Int) / 256) = (s4 : Int) ∧ IntKind.u64.wrap ((s4 : Int) + (s4 : Int) / 65536) = (s5 : Int) ∧ IntKind.u64.wrap ((s5 : Int) + (s5 : Int) / 4294967296) = (s6 : Int) ∧
      IntKind.i64.wrap (s6 : Int) = (s6 : Int) ∧ bits .and .i64 (s6 : Int) 127 = (c : Int) := by
    refine ⟨?_, ?_, ?_, ?_, ?_, ?_, ?_, ?_, ?_, ?_, ?_, ?_, ?_⟩
    · rw [ha1]; have := u64_and_nat (x / 2) 6148914691236517205 (by omega) (by omega); exact this
    · rw [hb1]; have := u64_and_nat x 6148914691236517205 (by omega) (by omega); exact this
    · rw [IntWalk.u64_in _ (by omega)]; omega
    · rw [ha2]; have := u64_and_nat (s1 / 4) 3689348814741910323 (by omega) (by omega); exact this
    · rw [hb2]; have := u64_and_nat s1 3689348814741910323 (by omega) (by omega); exact this
    · rw [IntWalk.u64_in _ (by omega)]; omega
    · rw [IntWalk.u64_in _ (by omega)]; omega
    · rw [hs3]; have := u64_and_nat q3 1085102592571150095 (by omega) (by omega); exact this
    · rw [IntWalk.u64_in _ (by omega)]; omega
    · rw [IntWalk.u64_in _ (by omega)]; omega
    · rw [IntWalk.u64_in _ (by omega)]; omega
    · exact IntWalk.i64_in _ (by omega)
    · rw [hc]
      have h1 : (BitVec.ofInt 64 (s6 : Int)).toNat = s6 := by rw [BitVec.ofInt_natCast, BitVec.toNat_ofNat]; omega
      have h2 : s6 &&& 127 ≤ 127 := Nat.and_le_right
      show IntKind.i64.wrap ((BitVec.ofInt 64 (s6 : Int) &&& BitVec.ofInt 64 127).toNat : Int) = _
      rw [BitVec.toNat_and, h1, show (BitVec.ofInt 64 127).toNat = 127 from rfl]
      exact IntWalk.i64_in _ (by omega)
  clear ha1 hb1 la1 lb1 hs1 ha2 hb2 la2 lb2 hs2 hq3 hs3 ls3 hs4 hs5 hs6 hc hfin hx
  obtain ⟨e1, e2, e3, e4, e5, e6, e7, e8, e9, e10, e11, e12, e13⟩ := hE
  go_enter Tryd.func69, Tryd.ntmps69
  go_wp2_with fail
  go_ret
  exact ⟨rfl, rfl⟩
end Go.Proofs.YtjglnpijngdpkaaDoor
/-
  bits.Set.List: the members in ascending order.
-/
namespace Go.Proofs.YtjglnpijngdpkaaDoor
open Go.RowKit
attribute [local go_sem ↓] Go.wp_at_zero Go.wp_at_succ
set_option linter.unusedSimpArgs false

/-- What Len computes. -/
def lenS (M : Nat) (hs : List Nat) : Nat := popS (M % 2 ^ 64) + (hs.map popS).sum
theorem pop_sum (hs : List Nat) (k : Nat) (h : k < hs.length) : ((hs.take (k + 1)).map popS).sum = ((hs.take k).map popS).sum + popS (hs.getD k 0) := by
  rw [List.take_succ_eq_append_getElem h]
  simp only [List.map_append, List.map_cons, List.map_nil, List.sum_append, List.sum_cons, List.sum_nil, Nat.add_zero]
  congr 2
  simp [List.getD, h]
theorem pop_bound : ∀ hs : List Nat, (hs.map popS).sum ≤ 127 * hs.length
  | [] => by simp
  | x :: xs => by
    have := pop_bound xs
    have h := popS_le x
    rw [List.map_cons, List.sum_cons, List.length_cons]; omega

set_option maxRecDepth 100000 in
set_option maxHeartbeats 1600000 in
theorem len_any (w : World) (v : Value) (M : Nat) (hv : Value) (hs : List Nat) (hf : v = .agg #[.int .u64 (M % 2 ^ 64 : Nat), hv]) (hw : Words w hv hs) (hc : Canon hs (M / 2 ^ 64)) (hsm : hs.length ≤ 63) :
    Calls Tryd.prog 37 #[v] w fun e w' => e = .returned (.int .i64 (lenS M hs : Nat)) ∧ Kept (fun _ => False) w w' := by
  subst hf
  have hby : ∀ i, hs.getD i 0 < 2 ^ 64 := fun i => by
    by_cases hi : i < hs.length
    · rw [hc.eq, wl_getD _ _ _ hi]; exact Nat.mod_lt _ (Nat.pow_pos (by omega))
    · rw [List.getD_eq_getElem?_getD, List.getElem?_eq_none (by omega)]; exact Nat.pow_pos (by omega)
  obtain ⟨va, vc, hf, _, hx⟩ := words_form hw
  obtain ⟨n, hn⟩ : ∃ n, n = hs.length := ⟨_, rfl⟩
  rw [← hn] at hf hx hsm
  have hlo : M % 2 ^ 64 < 2 ^ 64 := Nat.mod_lt _ (Nat.pow_pos (by omega))
  have hLS : lenS M hs = popS (M % 2 ^ 64) + (hs.map popS).sum := rfl
  generalize M % 2 ^ 64 = lo at hlo hLS ⊢
  obtain ⟨R, hR⟩ : ∃ R, R = lenS M hs := ⟨_, rfl⟩
  rw [← hR] at hLS ⊢
  have HR := Lib.hid hLS; have HN := Lib.hid hn
  have hp0 := popS_le lo
  have HBD := Lib.hid (fun k : Nat => pop_bound (hs.take k))
  have HX := Lib.hid hx; have HBY := Lib.hid hby
  have HO := Lib.hid (fun (w : World) => ones_any lo (by omega) w)
  clear hw hc hx hn hby hlo hLS hR
  subst hf
  have KA := Lib.hid (Kept.alloc (fun _ => False) w (.cells #[.int .u64 lo, .slice va n vc] 57))
  go_enter Tryd.func37, Tryd.ntmps37
  go_wp2_with fail
  refine (HO.out _).mono ?_
  rintro e w1 ⟨rfl, rfl⟩
  go_wp2_with fail
  obtain ⟨p0, hp0e⟩ : ∃ p, p = popS lo := ⟨_, rfl⟩
  rw [← hp0e] at hp0 HR ⊢
  clear hp0e HO
  generalize w.alloc (.cells #[.int .u64 lo, .slice va n vc] 57) = wA at KA ⊢
  go_loop [3, 12] (fun sv iv => ∃ k s : Nat, k ≤ n ∧ iv = .int .i64 k ∧ s ≤ 127 * (k + 1) ∧ sv = .int .i64 s ∧ Hid (s = p0 + ((hs.take k).map popS).sum)) (fun _ iv => n - (intOf iv).toNat)
  case atStart => exact ⟨0, p0, by omega, rfl, by omega, rfl, by show p0 = p0 + _; simp⟩
  case round =>
    obtain ⟨k, s, hk, rfl, hs1, rfl, hsum⟩ := hrel
    by_cases hlt : k < n
    · have l1 : (k : Int) < (n : Int) := by omega
      have l0 : (0 : Int) ≤ (k : Int) := by omega
      obtain ⟨g, off, rfl, hg, hcell⟩ := HX.out k (by assumption)
      have hcell2 : wA.cell? ⟨g, off + k, none⟩ = _ := (KA.out.cell (p := ⟨g, off + k, none⟩) hg (fun h => h)).trans hcell
      have HO2 := Lib.hid (fun (w : World) => ones_any _ (HBY.out k) w)
      have hp := popS_le (hs.getD k 0)
      have hnext := pop_sum hs k (by have := HN.out; omega)
      have HNX := Lib.hid hnext
      clear hcell hnext
      generalize hs.getD k 0 = y at hcell2 HO2 hp HNX
      obtain ⟨c2, hc2⟩ : ∃ c, c = popS y := ⟨_, rfl⟩
      rw [← hc2] at HO2 hp HNX
      clear hc2
      go_wp2_with fail
      refine (HO2.out _).mono ?_
      rintro e w1 ⟨rfl, rfl⟩
      go_wp2_with fail
      go_round
      case rel => exact ⟨k + 1, s + c2, by omega, by go_num, by omega, by go_num, by show _ = _; rw [HNX.out, hsum.out]; omega⟩
      case measure => simp [intOf]; omega
    · have hRs : s = R := by rw [HR.out, hsum.out, List.take_of_length_le (by have := HN.out; omega)]
      have HRS := Lib.hid hRs
      clear hRs
      go_wp2_with fail
      go_ret
      exact ⟨congrArg (fun z : Nat => Ending.returned (Value.int .i64 (z : Int))) HRS.out, KA.out⟩
end Go.Proofs.YtjglnpijngdpkaaDoor
/-
  bits.Set.List: the members in ascending order.
-/
namespace Go.Proofs.YtjglnpijngdpkaaDoor
open Go.RowKit
attribute [local go_sem ↓] Go.wp_at_zero Go.wp_at_succ
set_option linter.unusedSimpArgs false

theorem AllAt.blocks {a b : World} {B M : Nat} {hv : Value} {hs : List Nat} (h : AllAt a B M hv hs) (hsz : a.heap.size ≤ b.heap.size) (h1 : b.heap[B]? = a.heap[B]?) (h2 : ∀ k, hv.ownBlock = some k → b.heap[k]? = a.heap[k]?) (h3 : b.heap[0]? = a.heap[0]?) : AllAt b B M hv hs := by
  refine ⟨(World.cell?_of_block (w := a) h1).trans h.c0, (World.cell?_of_block (w := a) h1).trans h.c1, ?_, h.can, ⟨Nat.lt_of_lt_of_le h.tz.lt hsz, fun j hj => (World.cell?_of_block (w := a) h3).trans (h.tz.tab j hj)⟩⟩
  rcases h.words with hw | ⟨g, off, cap, rfl, e1, e2, e3, e4⟩
  · exact Or.inl hw
  · exact Or.inr ⟨g, off, cap, rfl, e1, e2, Nat.lt_of_lt_of_le e3 hsz, fun i hi => (World.cell?_of_block (w := a) (h2 g rfl)).trans (e4 i hi)⟩

/-- A number that can be a member. -/
abbrev Mem : Type := {x : Int // 0 ≤ x ∧ x ≤ 4095}
theorem memM_all {M : Nat} {hs : List Nat} (hc : Canon hs (M / 2 ^ 64)) (hl : hs.length ≤ 63) : memM M (64 * (1 + hs.length)) = memM M 4096 := by
  have hlt : M < 2 ^ (64 * (1 + hs.length)) := by
    have h1 := hc.lt
    rw [show 64 * (1 + hs.length) = 64 * hs.length + 64 by omega, Nat.pow_add]
    exact (Nat.div_lt_iff_lt_mul (Nat.pow_pos (by omega))).1 h1
  have := memM_skip (M := M) (a := 64 * (1 + hs.length)) (4096 - 64 * (1 + hs.length)) fun i h1 _ => Nat.testBit_lt_two_pow (Nat.lt_of_lt_of_le hlt (Nat.pow_le_pow_right (by omega) h1))
  rw [show 64 * (1 + hs.length) + (4096 - 64 * (1 + hs.length)) = 4096 by omega] at this
  exact this.symm

/-- The set's box behind All. -/
theorem allAt_new {w : World} {M : Nat} {va : Option Addr} {vc : Nat} {hs : List Nat} {k : Nat} (hw : Words w (.slice va k vc) hs) (hc : Canon hs (M / 2 ^ 64)) (hT : Tz w) :
    AllAt (w.alloc (.cells #[.int .u64 (M % 2 ^ 64 : Nat), .slice va k vc] 57)) w.heap.size M (.slice va k vc) hs :=
  ⟨by go_simp, by go_simp, hw.kept (Kept.alloc (fun _ => False) _ _) (fun _ _ h => h), hc, hT.kept (Kept.alloc (fun _ => False) _ _) (fun h => h)⟩

end Go.Proofs.YtjglnpijngdpkaaDoor
/-
  Plain words: what the library computes of a word is the number of its bits; a set's Len is the number of its members. No program is named here.
-/
namespace Go.Proofs.YtjglnpijngdpkaaDoor

/-- How many of the bits below n are set. -/
def cnt (x n : Nat) : Nat := ((List.range n).filter x.testBit).length

/-- A mask that is a byte, again and again. -/
def mkB (c : Nat) : Nat → Nat
  | 0 => 0
  | n + 1 => c + 256 * mkB c n
def byteMap (f : Nat → Nat) : Nat → Nat → Nat
  | 0, _ => 0
  | n + 1, x => f (x % 256) + 256 * byteMap f n (x / 256)

theorem and_byte (h l c m : Nat) (hl : l < 256) (hc : c < 256) : (l + 256 * h) &&& (c + 256 * m) = (l &&& c) + 256 * (h &&& m) := by
  have hlc : l &&& c < 2 ^ 8 := Nat.lt_of_le_of_lt Nat.and_le_left hl
  rw [show l + 256 * h = 2 ^ 8 * h + l by omega, show c + 256 * m = 2 ^ 8 * m + c by omega, show (l &&& c) + 256 * (h &&& m) = 2 ^ 8 * (h &&& m) + (l &&& c) by omega]
  refine Nat.eq_of_testBit_eq fun i => ?_
  rw [Nat.testBit_and, Nat.testBit_two_pow_mul_add _ hl, Nat.testBit_two_pow_mul_add _ hc, Nat.testBit_two_pow_mul_add _ hlc]
  by_cases hi : i < 8
  · simp [hi, Nat.testBit_and]
  · simp [hi, Nat.testBit_and]

def Q1 (l : Nat) : Nat := (l / 2 &&& 85) + (l &&& 85)
def Q2 (l : Nat) : Nat := (l / 4 &&& 51) + (l &&& 51)
def Q3 (l : Nat) : Nat := (l / 16 + l) &&& 15
theorem Q_facts : ∀ l : Fin 256, Q1 l.val < 256 ∧ Q2 (Q1 l.val) % 16 ≤ 4 ∧ Q2 (Q1 l.val) / 16 ≤ 4 ∧ Q3 (Q2 (Q1 l.val)) = cnt l.val 8 ∧ cnt l.val 8 ≤ 8 := by decide +kernel
theorem Q1_lt {l : Nat} (h : l < 256) : Q1 l < 256 := (Q_facts ⟨l, h⟩).1
theorem low85 : ∀ (p : Fin 128) (q : Fin 2), (p.val + 128 * q.val) &&& 85 = p.val &&& 85 := by decide +kernel
theorem low51 : ∀ (p : Fin 64) (q : Fin 4), (p.val + 64 * q.val) &&& 51 = p.val &&& 51 := by decide +kernel

theorem q1_map : ∀ (n x : Nat), x < 256 ^ n → (x / 2 &&& mkB 85 n) + (x &&& mkB 85 n) = byteMap Q1 n x
  | 0, x, h => by simp [mkB, byteMap]
  | n + 1, x, h => by
    have ih := q1_map n (x / 256) (Nat.div_lt_of_lt_mul (by rw [Nat.pow_succ, Nat.mul_comm] at h; exact h))
    have e : x = x % 256 + 256 * (x / 256) := by omega
    have e2 : x / 2 = (x % 256 / 2 + 128 * (x / 256 % 2)) + 256 * (x / 256 / 2) := by omega
    have hl : x % 256 / 2 + 128 * (x / 256 % 2) < 256 := by omega
    have h85 := low85 ⟨x % 256 / 2, by omega⟩ ⟨x / 256 % 2, by omega⟩
    simp only at h85
    have a1 := and_byte (x / 256 / 2) _ 85 (mkB 85 n) hl (by omega)
    have a2 := and_byte (x / 256) (x % 256) 85 (mkB 85 n) (by omega) (by omega)
    rw [← e2, h85] at a1
    rw [← e] at a2
    simp only [mkB, byteMap]
    rw [a1, a2, ← ih]
    simp only [Q1]
    omega
theorem q2_map : ∀ (n x : Nat), x < 256 ^ n → (x / 4 &&& mkB 51 n) + (x &&& mkB 51 n) = byteMap Q2 n x
  | 0, x, h => by simp [mkB, byteMap]
  | n + 1, x, h => by
    have ih := q2_map n (x / 256) (Nat.div_lt_of_lt_mul (by rw [Nat.pow_succ, Nat.mul_comm] at h; exact h))
    have e : x = x % 256 + 256 * (x / 256) := by omega
    have e2 : x / 4 = (x % 256 / 4 + 64 * (x / 256 % 4)) + 256 * (x / 256 / 4) := by omega
    have hl : x % 256 / 4 + 64 * (x / 256 % 4) < 256 := by omega
    have h51 := low51 ⟨x % 256 / 4, by omega⟩ ⟨x / 256 % 4, by omega⟩
    simp only at h51
    have a1 := and_byte (x / 256 / 4) _ 51 (mkB 51 n) hl (by omega)
    have a2 := and_byte (x / 256) (x % 256) 51 (mkB 51 n) (by omega) (by omega)
    rw [← e2, h51] at a1
    rw [← e] at a2
    simp only [mkB, byteMap]
    rw [a1, a2, ← ih]
    simp only [Q2]
    omega
theorem byteMap_lt (f : Nat → Nat) (hf : ∀ l, l < 256 → f l < 256) : ∀ n x, byteMap f n x < 256 ^ n
  | 0, x => by simp [byteMap]
  | n + 1, x => by
    have ih := byteMap_lt f hf n (x / 256)
    have := hf (x % 256) (by omega)
    simp only [byteMap]
    rw [Nat.pow_succ]
    omega
theorem byteMap_comp (f g : Nat → Nat) (hf : ∀ l, l < 256 → f l < 256) : ∀ n x, byteMap g n (byteMap f n x) = byteMap (fun l => g (f l)) n x
  | 0, x => by simp [byteMap]
  | n + 1, x => by
    have ih := byteMap_comp f g hf n (x / 256)
    have := hf (x % 256) (by omega)
    simp only [byteMap]
    rw [← ih]
    congr 2
    · omega
    · congr 2; omega
theorem mod15 (a : Nat) : a &&& 15 = a % 16 := Nat.and_two_pow_sub_one_eq_mod a 4
/-- The third step, of bytes whose halves are at most 4. -/
theorem q3_map (f : Nat → Nat) (hf : ∀ l, l < 256 → f l < 256 ∧ f l % 16 ≤ 4 ∧ f l / 16 ≤ 4) : ∀ (n x : Nat), (byteMap f n x / 16 + byteMap f n x) &&& mkB 15 n = byteMap (fun l => Q3 (f l)) n x ∧ (byteMap f n x) % 16 ≤ 4
  | 0, x => by simp [mkB, byteMap]
  | n + 1, x => by
    have ⟨ih, ih2⟩ := q3_map f hf n (x / 256)
    have ⟨f1, f2, f3⟩ := hf (x % 256) (by omega)
    simp only [byteMap, mkB]
    generalize byteMap f n (x / 256) = h at ih ih2
    generalize f (x % 256) = l at f1 f2 f3
    refine ⟨?_, by omega⟩
    have e : (l + 256 * h) / 16 + (l + 256 * h) = (l / 16 + l + 16 * (h % 16)) + 256 * (h / 16 + h) := by omega
    rw [e, and_byte _ _ _ _ (by omega) (by omega), ih]
    simp only [Q3, mod15]
    omega

theorem cnt_add (x n : Nat) : cnt x (8 + n) = cnt (x % 256) 8 + cnt (x / 256) n := by
  unfold cnt
  rw [List.range_add, List.filter_append, List.length_append, List.filter_map, List.length_map]
  congr 2
  · refine List.filter_congr fun i hi => ?_
    have : i < 8 := by simpa using hi
    rw [show (256 : Nat) = 2 ^ 8 from rfl, Nat.testBit_mod_two_pow]
    simp [this]
  · refine List.filter_congr fun i _ => ?_
    simp only [Function.comp]
    rw [show (256 : Nat) = 2 ^ 8 from rfl, Nat.testBit_div_two_pow, Nat.add_comm]

/-- What the library computes is the number of bits. -/
theorem popS_cnt (x : Nat) (hx : x < 18446744073709551616) : popS x = cnt x 64 := by
  have h1 : pop1 x = byteMap Q1 8 x := q1_map 8 x (by simpa using hx)
  have h2 : pop2 (pop1 x) = byteMap (fun l => Q2 (Q1 l)) 8 x := by
    rw [h1, ← byteMap_comp Q1 Q2 (fun l h => Q1_lt h)]
    exact q2_map 8 _ (byteMap_lt Q1 (fun l h => Q1_lt h) 8 x)
  have h3 : pop3 (pop2 (pop1 x)) = byteMap (fun l => Q3 (Q2 (Q1 l))) 8 x := by
    rw [h2]
    exact (q3_map (fun l => Q2 (Q1 l)) (fun l h => by
      have := Q_facts ⟨l, h⟩
      simp only at this
      omega) 8 x).1
  have hc : ∀ y, cnt (y % 256) 8 = Q3 (Q2 (Q1 (y % 256))) ∧ Q3 (Q2 (Q1 (y % 256))) ≤ 8 := fun y => by
    have := Q_facts ⟨y % 256, Nat.mod_lt _ (by omega)⟩
    simp only at this
    omega
  have hsum : cnt x 64 = Q3 (Q2 (Q1 (x % 256))) + (Q3 (Q2 (Q1 (x / 256 % 256))) + (Q3 (Q2 (Q1 (x / 256 / 256 % 256))) + (Q3 (Q2 (Q1 (x / 256 / 256 / 256 % 256))) + (Q3 (Q2 (Q1 (x / 256 / 256 / 256 / 256 % 256))) + (Q3 (Q2 (Q1 (x / 256 / 256 / 256 / 256 / 256 % 256))) + (Q3 (Q2 (Q1 (x / 256 / 256 / 256 / 256 / 256 / 256 % 256))) + (Q3 (Q2 (Q1 (x / 256 / 256 / 256 / 256 / 256 / 256 / 256 % 256)))))))))) := by
    rw [show (64 : Nat) = 8 + (8 + (8 + (8 + (8 + (8 + (8 + (8 + 0))))))) from rfl]
    simp only [cnt_add, hc]
    simp [cnt]
  unfold popS
  rw [h3, hsum]
  simp only [byteMap]
  have b0 := (hc x).2
  have b1 := (hc (x / 256)).2
  have b2 := (hc (x / 256 / 256)).2
  have b3 := (hc (x / 256 / 256 / 256)).2
  have b4 := (hc (x / 256 / 256 / 256 / 256)).2
  have b5 := (hc (x / 256 / 256 / 256 / 256 / 256)).2
  have b6 := (hc (x / 256 / 256 / 256 / 256 / 256 / 256)).2
  have b7 := (hc (x / 256 / 256 / 256 / 256 / 256 / 256 / 256)).2
  generalize Q3 (Q2 (Q1 (x % 256))) = c0 at *
  generalize Q3 (Q2 (Q1 (x / 256 % 256))) = c1 at *
  generalize Q3 (Q2 (Q1 (x / 256 / 256 % 256))) = c2 at *
  generalize Q3 (Q2 (Q1 (x / 256 / 256 / 256 % 256))) = c3 at *
  generalize Q3 (Q2 (Q1 (x / 256 / 256 / 256 / 256 % 256))) = c4 at *
  generalize Q3 (Q2 (Q1 (x / 256 / 256 / 256 / 256 / 256 % 256))) = c5 at *
  generalize Q3 (Q2 (Q1 (x / 256 / 256 / 256 / 256 / 256 / 256 % 256))) = c6 at *
  generalize Q3 (Q2 (Q1 (x / 256 / 256 / 256 / 256 / 256 / 256 / 256 % 256))) = c7 at *
  clear h1 h2 h3 hc hsum hx
  rw [show (127 : Nat) = 2 ^ 7 - 1 from rfl, Nat.and_two_pow_sub_one_eq_mod]
  obtain ⟨y, hy⟩ : ∃ y, y = c0 + 256 * (c1 + 256 * (c2 + 256 * (c3 + 256 * (c4 + 256 * (c5 + 256 * (c6 + 256 * (c7 + 256 * 0))))))) := ⟨_, rfl⟩
  rw [← hy]
  obtain ⟨z, hz⟩ : ∃ z, z = y + y / 256 := ⟨_, rfl⟩
  have hz2 : z = c0 + c1 + 256 * (c1 + c2 + 256 * (c2 + c3 + 256 * (c3 + c4 + 256 * (c4 + c5 + 256 * (c5 + c6 + 256 * (c6 + c7 + 256 * c7)))))) := by omega
  rw [← hz]
  clear hz hy
  obtain ⟨u, hu⟩ : ∃ u, u = z + z / 65536 := ⟨_, rfl⟩
  have hu2 : u = c0 + c1 + c2 + c3 + 256 * (c1 + c2 + c3 + c4 + 256 * (c2 + c3 + c4 + c5 + 256 * (c3 + c4 + c5 + c6 + 256 * (c4 + c5 + c6 + c7 + 256 * (c5 + c6 + c7 + 256 * (c6 + c7 + 256 * c7)))))) := by omega
  rw [← hu]
  clear hu hz2
  have hv : u / 4294967296 = c4 + c5 + c6 + c7 + 256 * (c5 + c6 + c7 + 256 * (c6 + c7 + 256 * c7)) := by omega
  rw [hv]
  omega

theorem cnt_words (M n : Nat) : ((wl M n).map popS).sum = cnt M (64 * n) := by
  induction n with
  | zero => rfl
  | succ n ih =>
    have e : wl M (n + 1) = wl M n ++ [M / 2 ^ (64 * n) % 2 ^ 64] := by simp [wl, List.range_succ]
    rw [e, List.map_append, List.sum_append, ih]
    have h1 : popS (M / 2 ^ (64 * n) % 2 ^ 64) = cnt (M / 2 ^ (64 * n) % 2 ^ 64) 64 := popS_cnt _ (Nat.mod_lt _ (by decide))
    simp only [List.map_cons, List.map_nil, List.sum_cons, List.sum_nil, Nat.add_zero]
    rw [h1]
    unfold cnt
    rw [show 64 * (n + 1) = 64 * n + 64 by omega, List.range_add, List.filter_append, List.length_append, List.filter_map, List.length_map]
    congr 2
    refine List.filter_congr fun i hi => ?_
    have hi : i < 64 := by simpa using hi
    rw [Nat.testBit_mod_two_pow, Nat.testBit_div_two_pow]
    simp [hi, Function.comp, Nat.add_comm]

/-- The number that Len returns. -/
theorem lenS_mem {M : Nat} {hs : List Nat} (hc : Canon hs (M / 2 ^ 64)) (hl : hs.length ≤ 63) : lenS M hs = (memM M 4096).length := by
  rw [← memM_all hc hl]
  unfold lenS
  have e1 : popS (M % 2 ^ 64) = ((wl M 1).map popS).sum := by simp [wl]
  have e2 : hs = wl (M / 2 ^ 64) hs.length := hc.eq
  have e3 : wl M (1 + hs.length) = wl M 1 ++ wl (M / 2 ^ 64) hs.length := by
    rw [← List.take_append_drop 1 (wl M (1 + hs.length)), wl_take _ _ _ (by omega), wl_drop1]
    simp
  have : popS (M % 2 ^ 64) + (hs.map popS).sum = ((wl M (1 + hs.length)).map popS).sum := by
    rw [e3, List.map_append, List.sum_append, ← e1]
    congr 2
    rw [← e2]
  rw [this, cnt_words]
  simp [cnt, memM]
end Go.Proofs.YtjglnpijngdpkaaDoor
