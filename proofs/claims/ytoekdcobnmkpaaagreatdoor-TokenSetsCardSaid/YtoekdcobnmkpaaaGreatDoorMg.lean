/- The first texts of this claim, one behind the other. -/
import Derived.Test.YtoekdcobnmkpaaaGreatDoorBTxM
import Derived.Test.YtoekdcobnmkpaaaGreatDoorBSeq
import Derived.Shelf.Strconv.AppendIntPublic10
import Derived.Test.YtoekdcobnmkpaaaGreatDoorBAm
import Derived.Test.YtoekdcobnmkpaaaGreatDoorCore
import Derived.Test.YtoekdcobnmkpaaaGreatDoorRows
import Derived.Shelf.Spec.TrailingZeros
import Derived.Shelf.Lays7
import Derived.Test.YtoekdcobnmkpaaaGreatDoorOf
import Derived.Laws.BitsAllLaws
import Derived.BigQuiet
import Derived.Deep.RegionHeld3
import Derived.Deep.DrawnRows
import Derived.Laws.MakeOwn
import Derived.Laws.IdiomStrings
import Derived.StillTailTactics
import Derived.Laws.CopyOwn
import Derived.Test.YtoekdcobnmkpaaaGreatDoorSetM
import Derived.Outline
import Derived.WalkLawsBesides
import Derived.WalkSpells
import Derived.IntWalk
import Derived.OwnWalk
import Derived.Laws.AppendOwn
import Derived.Maps.AppendAt
import Derived.Laws.AppendOwnNone
import Derived.Deep.AppendLies
import Derived.BigRegion
import Derived.Test.YtoekdcobnmkpaaaGreatDoorBytes
import Derived.Test.YtoekdcobnmkpaaaGreatDoorTkGl
import Derived.Test.YtoekdcobnmkpaaaGreatDoorTkRp
import Derived.Test.YtoekdcobnmkpaaaGreatDoorTkU
import Derived.Test.YtoekdcobnmkpaaaGreatDoorTkRe
import Derived.Test.YtoekdcobnmkpaaaGreatDoorArgIn
import Derived.Lib.SmallJoins
import Derived.Deep.RegionWith
import Derived.Test.YtoekdcobnmkpaaaGreatDoorTkCard8
import Derived.Shelf.Vars
/-
  The library's strconv.AppendInt in base 10, laid at this seat's program: a row of one's own with the number's digits behind it.
-/
namespace Go.Proofs.YtoekdcobnmkpaaaGreatDoor
open Go.RowKit Go.Shelf
set_option maxRecDepth 100000
def laysAI_ren : Go.Shelf.Ren := ⟨fun | 129 => 92 | 176 => 32 | 249 => 51 | 283 => 81 | 284 => 82 | 285 => 83 | 286 => 84 | 288 => 69 | 317 => 91 | 318 => 93 | 319 => 94 | 320 => 95 | 337 => 102 | 338 => 68 | n => n, fun | 0 => 0 | 2 => 2 | 3 => 3 | 4 => 4 | 5 => 5 | 9 => 9 | 20 => 20 | 37 => 64 | 46 => 105 | 51 => 122 | 53 => 24 | 171 => 112 | 173 => 114 | 212 => 121 | 213 => 123 | 232 => 140 | 233 => 110 | n => n, fun | 17 => 5 | 18 => 8 | 19 => 3 | n => n⟩
theorem laysAI : Go.Proofs.LaysM.n176 Tryz.prog laysAI_ren := {
  mixed := by kernel_rfl
  f129 := Tryz.func92.trans (congrArg some (by kernel_rfl))
  f176 := Tryz.func32.trans (congrArg some (by kernel_rfl))
  f249 := Tryz.func51.trans (congrArg some (by kernel_rfl))
  f283 := Tryz.func81.trans (congrArg some (by kernel_rfl))
  f284 := Tryz.func82.trans (congrArg some (by kernel_rfl))
  f285 := Tryz.func83.trans (congrArg some (by kernel_rfl))
  f286 := Tryz.func84.trans (congrArg some (by kernel_rfl))
  f288 := Tryz.func69.trans (congrArg some (by kernel_rfl))
  f317 := Tryz.func91.trans (congrArg some (by kernel_rfl))
  f318 := Tryz.func93.trans (congrArg some (by kernel_rfl))
  f319 := Tryz.func94.trans (congrArg some (by kernel_rfl))
  f320 := Tryz.func95.trans (congrArg some (by kernel_rfl))
  f337 := Tryz.func102.trans (congrArg some (by kernel_rfl))
  f338 := Tryz.func68.trans (congrArg some (by kernel_rfl))
  t0 := Tryz.underlying0
  a0 := Tryz.isAgg0
  z0 := Tryz.sizeOf0
  v0 := Tryz.zeroValue0
  t2 := Tryz.underlying2
  a2 := Tryz.isAgg2
  z2 := Tryz.sizeOf2
  v2 := Tryz.zeroValue2
  t3 := Tryz.underlying3
  a3 := Tryz.isAgg3
  z3 := Tryz.sizeOf3
  v3 := Tryz.zeroValue3
  t4 := Tryz.underlying4
  a4 := Tryz.isAgg4
  z4 := Tryz.sizeOf4
  v4 := Tryz.zeroValue4
  t5 := Tryz.underlying5
  a5 := Tryz.isAgg5
  z5 := Tryz.sizeOf5
  v5 := Tryz.zeroValue5
  t9 := Tryz.underlying9
  a9 := Tryz.isAgg9
  z9 := Tryz.sizeOf9
  v9 := Tryz.zeroValue9
  t20 := Tryz.underlying20
  a20 := Tryz.isAgg20
  z20 := Tryz.sizeOf20
  v20 := Tryz.zeroValue20
  t37 := Tryz.underlying64
  a37 := Tryz.isAgg64
  z37 := Tryz.sizeOf64
  v37 := Tryz.zeroValue64
  t46 := Tryz.underlying105
  a46 := Tryz.isAgg105
  z46 := Tryz.sizeOf105
  v46 := Tryz.zeroValue105
  t51 := Tryz.underlying122
  a51 := Tryz.isAgg122
  z51 := Tryz.sizeOf122
  v51 := Tryz.zeroValue122
  t53 := Tryz.underlying24
  a53 := Tryz.isAgg24
  z53 := Tryz.sizeOf24
  v53 := Tryz.zeroValue24
  t171 := Tryz.underlying112
  a171 := Tryz.isAgg112
  z171 := Tryz.sizeOf112
  v171 := Tryz.zeroValue112
  t173 := Tryz.underlying114
  a173 := Tryz.isAgg114
  z173 := Tryz.sizeOf114
  v173 := Tryz.zeroValue114
  t212 := Tryz.underlying121
  a212 := Tryz.isAgg121
  z212 := Tryz.sizeOf121
  v212 := Tryz.zeroValue121
  t213 := Tryz.underlying123
  a213 := Tryz.isAgg123
  z213 := Tryz.sizeOf123
  t232 := Tryz.underlying140
  a232 := Tryz.isAgg140
  z232 := Tryz.sizeOf140
  v232 := Tryz.zeroValue140
  t233 := Tryz.underlying110
  a233 := Tryz.isAgg110
  z233 := Tryz.sizeOf110
  v233 := Tryz.zeroValue110
  g17 := by kernel_rfl
  g18 := by kernel_rfl
  g19 := by kernel_rfl
  i0 := by kernel_rfl
  i2 := by kernel_rfl
  i3 := by kernel_rfl
  i4 := by kernel_rfl
  i5 := by kernel_rfl
  i9 := by kernel_rfl
  i20 := by kernel_rfl
  i37 := by kernel_rfl
  i46 := by kernel_rfl
  i51 := by kernel_rfl
  i53 := by kernel_rfl
  i171 := by kernel_rfl
  i173 := by kernel_rfl
  i212 := by kernel_rfl
  i232 := by kernel_rfl
  i233 := by kernel_rfl
  m17 := by kernel_rfl
  m18 := by kernel_rfl
  m19 := by kernel_rfl }


theorem sh_AppendInt (B n : Nat) (i : Int) (h0 : -9223372036854775808 ≤ i) (h1 : i ≤ 9223372036854775807) (sv : Value) (xs : List Value) (w : World) (hown : w.ownsRow B 5 1 sv n xs) (hB : B ≤ w.heap.size) (hlim : n + 21 ≤ 140737488355328)
    (htab : Lib.TabBelow Tryz.prog B w "internal/strconv.uint64pow10" .u64 Lib.pow10Tab) :
    Calls Tryz.prog 32 #[sv, .int .i64 i, .int .i64 10] w fun e w' => ∃ v', e = .returned v' ∧ w'.ownsRow B 5 1 v' (n + (Lib.itoa i).length) (xs ++ Lib.byteCells (Lib.itoa i)) ∧ Below B w w' ∧ Lib.OthersKept 5 none w w' :=
  Any.strconv_AppendInt_10 laysAI B n i h0 h1 sv xs w hown hB hlim htab
end Go.Proofs.YtoekdcobnmkpaaaGreatDoor
/-
  bits: leastIn; the library's contract of math/bits.TrailingZeros64, laid at this seat's program.
-/
namespace Go.Proofs.YtoekdcobnmkpaaaGreatDoor
open Go.RowKit Go.Shelf

def laysTz_ren : Go.Shelf.Ren := ⟨fun | 29 => 68 | n => n, fun | 0 => 0 | 3 => 3 | 4 => 4 | 5 => 5 | 22 => 24 | 25 => 105 | 54 => 110 | n => n, fun | 1 => 3 | n => n⟩
theorem laysTz : Go.Proofs.Lays7.n29 Tryz.prog laysTz_ren := {
  mixed := by kernel_rfl
  f29 := Tryz.func68.trans (congrArg some (by kernel_rfl))
  t0 := Tryz.underlying0
  a0 := Tryz.isAgg0
  z0 := Tryz.sizeOf0
  v0 := Tryz.zeroValue0
  i0 := by kernel_rfl
  t3 := Tryz.underlying3
  a3 := Tryz.isAgg3
  z3 := Tryz.sizeOf3
  v3 := Tryz.zeroValue3
  i3 := by kernel_rfl
  t4 := Tryz.underlying4
  a4 := Tryz.isAgg4
  z4 := Tryz.sizeOf4
  v4 := Tryz.zeroValue4
  i4 := by kernel_rfl
  t5 := Tryz.underlying5
  a5 := Tryz.isAgg5
  z5 := Tryz.sizeOf5
  v5 := Tryz.zeroValue5
  i5 := by kernel_rfl
  t22 := Tryz.underlying24
  a22 := Tryz.isAgg24
  z22 := Tryz.sizeOf24
  v22 := Tryz.zeroValue24
  i22 := by kernel_rfl
  t25 := Tryz.underlying105
  a25 := Tryz.isAgg105
  z25 := Tryz.sizeOf105
  v25 := Tryz.zeroValue105
  i25 := by kernel_rfl
  t54 := Tryz.underlying110
  a54 := Tryz.isAgg110
  z54 := Tryz.sizeOf110
  g1 := by kernel_rfl }

/-- The library's table lies where the program lays it. -/
structure Tz (w : World) : Prop where
  lt : 3 < w.heap.size
  tab : Go.Proofs.TabAt 3 Lib.deBruijn64tab w
theorem Tz.kept {S : Nat → Prop} {a b : World} (h : Tz a) (hk : Kept S a b) (hn : ¬ S 3) : Tz b :=
  ⟨Nat.lt_of_lt_of_le h.lt hk.size, fun j hj => (hk.cell (p := ⟨3, j, none⟩) h.lt hn).trans (h.tab j hj)⟩

theorem sh_Tz (x : Nat) (hx : x < 18446744073709551616) (w : World) (hT : Tz w) : Calls Tryz.prog 68 #[.int .u64 x] w fun e w' => e = .returned (.int .i64 (Lib.ctz 64 x)) ∧ w = w' :=
  (Any7.bits_TrailingZeros64 laysTz x hx w (fun _ => hT.tab)).mono fun _ _ h => ⟨h.1, h.2.symm⟩

set_option maxRecDepth 100000 in
theorem leastIn_any (x k : Nat) (hx : x < 18446744073709551616) (hk : k ≤ 1000) (hc : Lib.ctz 64 x ≤ 64) (w : World) (hT : Tz w) :
    Calls Tryz.prog 50 #[.int .u64 x, .int .i64 k] w fun e w' => e = .returned (.int .i64 ((64 * k + Lib.ctz 64 x : Nat) : Int)) ∧ w = w' := by
  have H := Lib.hid (sh_Tz x hx w hT)
  clear hT
  generalize Lib.ctz 64 x = j at H hc ⊢
  go_enter Tryz.func50, Tryz.ntmps50
  go_wp2_with fail
  refine H.out.mono ?_
  rintro e w1 ⟨rfl, rfl⟩
  go_wp2_with fail
  go_ret
  exact ⟨by rw [show ((64 * k + j : Nat) : Int) = (k : Int) * 64 + j by omega]; rfl, rfl⟩
end Go.Proofs.YtoekdcobnmkpaaaGreatDoor
/-
  bits.Set.All: the members come in ascending order, one by one, as far as the consumer asks.
-/
namespace Go.Proofs.YtoekdcobnmkpaaaGreatDoor
open Go.RowKit Go.Shelf
attribute [local go_sem] Oper.semAt_some

theorem kept_grown {a b : World} (h : Kept (fun _ => False) a b) : a.grownBy b none :=
  ⟨h.os, h.tape, h.output, h.size, fun k hk _ => h.block k hk (fun h => h)⟩

/-- What the iterator reads: the set in its box, its words, the library's table. -/
structure AllAt (W : World) (B : Nat) (M : Nat) (hv : Value) (hs : List Nat) : Prop where
  c0 : W.cell? ⟨B, 0, none⟩ = some (.int .u64 (M % 2 ^ 64 : Nat))
  c1 : W.cell? ⟨B, 1, none⟩ = some hv
  words : Words W hv hs
  can : Canon hs (M / 2 ^ 64)
  tz : Tz W
theorem AllAt.kept {S : Nat → Prop} {a b : World} {B M : Nat} {hv : Value} {hs : List Nat} (h : AllAt a B M hv hs) (hk : Kept S a b) (h1 : ¬ S B) (h2 : ∀ k, hv.ownBlock = some k → ¬ S k) (h3 : ¬ S 3) : AllAt b B M hv hs := by
  have hB := World.block_lt_of_cell? a _ h.c0
  exact ⟨(hk.cell (p := ⟨B, 0, none⟩) hB h1).trans h.c0, (hk.cell (p := ⟨B, 1, none⟩) hB h1).trans h.c1, h.words.kept hk h2, h.can, h.tz.kept hk h3⟩
theorem AllAt.on {a b : World} {B M : Nat} {hv : Value} {hs : List Nat} (h : AllAt a B M hv hs) (hk : Kept (fun _ => False) a b) : AllAt b B M hv hs := h.kept hk (fun h => h) (fun _ _ h => h) (fun h => h)

/-- What a round's contract gives the iterator. -/
def RoundOf (l N : Nat) (Kp : World → World → Prop) (J Jx : List Int → World → Prop) : Prop :=
  ∀ pre x W, J pre W → pre.length < N → 0 ≤ x → x ≤ 4095 → YieldAt Fence.wide 1 Tryz.prog l #[Value.int .i64 x] W fun e W' =>
    (e = .returned (.bool true) ∧ J (pre ++ [x]) W' ∧ Kp W W') ∨ (e = .returned (.bool false) ∧ Jx (pre ++ [x]) W')

set_option maxRecDepth 100000 in
set_option maxHeartbeats 6400000 in
theorem all1_in (l B M : Nat) (va : Option Addr) (vc : Nat) (hs : List Nat) (Kp : World → World → Prop) (J Jx : List Int → World → Prop) (W : World)
    (hY : RoundOf l (memM M (64 * (1 + hs.length))).length Kp J Jx)
    (hKp : ∀ a b, Kp a b → AllAt a B M (.slice va hs.length vc) hs → AllAt b B M (.slice va hs.length vc) hs)
    (hJ : ∀ pre a b, W.heap.size ≤ a.heap.size → J pre a → Kept (fun _ => False) a b → J pre b)
    (hKs : ∀ a b, Kp a b → a.heap.size ≤ b.heap.size)
    (hA : AllAt W B M (.slice va hs.length vc) hs) (hl : hs.length ≤ 63) (h0 : J [] W) :
    CallsIn Fence.wide 2 Tryz.prog 48 #[.func (.yield l) #[] #[], .pointer (some ⟨B, 0, none⟩)] W fun e W' => (∃ v, e = .returned v) ∧
      ((∃ ys, ys = memM M (64 * (1 + hs.length)) ∧ J ys W') ∨ (∃ pre, pre <+: memM M (64 * (1 + hs.length)) ∧ Jx pre W')) := by
  obtain ⟨n, hn⟩ : ∃ n, n = hs.length := ⟨_, rfl⟩
  rw [← hn] at hY hKp hA hl ⊢
  have HN := Lib.hid hn
  clear hn
  have HY := Lib.hid hY; have HKP := Lib.hid hKp; have HJ := Lib.hid hJ; have HA := Lib.hid hA; have HKS := Lib.hid hKs
  have H0 : Hid (J (memM M (64 * 0)) W) := h0
  clear hY hKp hJ hA h0 hKs
  have c0 := HA.out.c0; have c1 := HA.out.c1
  obtain ⟨lo, hlo⟩ : ∃ lo, lo = M % 2 ^ 64 := ⟨_, rfl⟩
  rw [← hlo] at c0
  have HLO := Lib.hid hlo
  clear hlo
  refine callsIn_of_wp Tryz.func48 rfl trivial ?_ rfl
  simp only [Tryz.ntmps48, List.size_toArray, List.length_cons, List.length_nil, Nat.reduceAdd, Nat.reduceSub, Array.replicate_succ, Array.replicate_zero, List.push_toArray, List.append_toArray, List.nil_append, List.cons_append]
  gi_wp2_with (refine ⟨trivial, ?_⟩; gi_at_call 49; refine (callsIn_wide.2 (words_any _ lo n vc va (by omega))).mono ?_; rintro e w1 ⟨rfl, hk1⟩)
  have HA1 := Lib.hid (HA.out.on hk1)
  have H1 : Hid (J (memM M (64 * 0)) w1) := HJ.out _ _ _ (Nat.le_refl _) H0.out hk1
  have hs1 : W.heap.size ≤ w1.heap.size := hk1.size
  clear hk1 H0 HA c0 c1
  gi_loopw [7] (fun kv wr => ∃ k : Nat, k ≤ n + 1 ∧ kv = .int .i64 k ∧ W.heap.size ≤ wr.heap.size ∧ Hid (AllAt wr B M (.slice va n vc) hs) ∧ Hid (J (memM M (64 * k)) wr)) (fun kv _ => n + 1 - (intOf kv).toNat)
  case atStart => exact ⟨0, by omega, rfl, hs1, HA1, H1⟩
  case round =>
    obtain ⟨k, hk, rfl, hsz, hat, hj⟩ := hrel
    clear HA1 H1
    by_cases hlt : k < n + 1
    · have l1 : (k : Int) < 1 + (n : Int) := by omega
      have c0 := hat.out.c0; have c1 := hat.out.c1
      rw [← HLO.out] at c0
      have hwd := wd_word M hs hat.out.can k
      rw [← HLO.out] at hwd
      have HWD := Lib.hid (word_any wr lo (.slice va n vc) hs k hat.out.words (by omega))
      change wd lo hs k = M / 2 ^ (64 * k) % 2 ^ 64 at hwd
      rw [hwd] at HWD
      have hy64 : M / 2 ^ (64 * k) % 2 ^ 64 < 2 ^ 64 := Nat.mod_lt _ (Nat.pow_pos (by omega))
      have hnx := fun t => memM_next (M := M) (k := k) (t := t)
      have hrs := fun t => memM_rest (M := M) (k := k) (t := t)
      have HNX := Lib.hid hnx; have HRS := Lib.hid hrs
      clear hwd hnx hrs
      obtain ⟨y, hy⟩ : ∃ y, y = M / 2 ^ (64 * k) % 2 ^ 64 := ⟨_, rfl⟩
      rw [← hy] at HWD hy64 HNX HRS
      clear hy
      obtain ⟨wo, hwo⟩ : ∃ wo : World, wo = wr := ⟨_, rfl⟩
      rw [← hwo] at hsz hat hj c0 c1 HWD ⊢
      clear hwo
      gi_wp2_with (refine ⟨trivial, ?_⟩; gi_at_call 43; refine (callsIn_wide.2 HWD.out).mono ?_; rintro e w2 ⟨rfl, hk2⟩)
      have HA2 := Lib.hid (hat.out.on hk2)
      have H2 : Hid (J (memM M (64 * k + 0)) w2) := HJ.out _ _ _ hsz hj.out hk2
      have hs2 : W.heap.size ≤ w2.heap.size := Nat.le_trans hsz hk2.size
      clear hk2 hat hj c0 c1 HWD
      gi_loopw [4] (fun yv wr => ∃ t : Nat, t ≤ 64 ∧ yv = .int .u64 (cutW y t : Nat) ∧ W.heap.size ≤ wr.heap.size ∧ Hid (AllAt wr B M (.slice va n vc) hs) ∧ Hid (J (memM M (64 * k + t)) wr)) (fun yv _ => (intOf yv).toNat)
      case atStart => exact ⟨0, by omega, by rw [cutW_zero], hs2, HA2, H2⟩
      case round =>
        obtain ⟨t, ht, rfl, hsz, hat, hj⟩ := hrel
        clear HA2 H2
        by_cases hz : cutW y t = 0
        · have hrest := HRS.out t ht hz
          have HJ3 : Hid (J (memM M (64 * (k + 1))) wr) := by show J _ _; rw [hrest]; exact hj.out
          clear hrest hj
          rw [hz]
          clear hz
          gi_wp2
          go_roundw
          case rel => exact ⟨k + 1, by omega, by go_num, hsz, hat, HJ3⟩
          case measure => simp [intOf]; omega
        · obtain ⟨g1, g2, g3, g4⟩ := HNX.out t hz
          have hdec := cutW_dec hz _ g4
          have hple := memM_prefix M (a := 64 * k + Lib.ctz 64 (cutW y t) + 1) (b := 64 * (1 + n)) (by omega)
          have hlen := hple.length_le
          rw [g3, List.length_append, List.length_singleton] at hlen
          rw [g3] at hple
          have hcy := cutW_le y t
          have HL := Lib.hid (fun (w : World) (h : Tz w) => leastIn_any (cutW y t) k (by omega) (by omega) (by omega) w h)
          have HTZ := Lib.hid hat.out.tz
          have HP := Lib.hid hple
          generalize Lib.ctz 64 (cutW y t) = j at g1 g2 g3 g4 hdec hlen HL HP
          obtain ⟨x, hx⟩ : ∃ x : Nat, x = 64 * k + j := ⟨_, rfl⟩
          rw [← hx] at g3 HL HP
          have HJ := Lib.hid hj.out; have HAT := Lib.hid hat.out
          obtain ⟨fn, tmps, assign, body, hy, hR⟩ := HY.out (memM M (64 * k + t)) (x : Int) wr hj.out (by omega) (by omega) (by omega)
          have HG3 := Lib.hid g3
          obtain ⟨W2, hW2⟩ : ∃ w, w = cutW y (j + 1) := ⟨_, rfl⟩
          have HW2 := Lib.hid hW2
          rw [← hW2] at g4 hdec
          generalize cutW y t = Wd at g4 hdec hcy HL hz ⊢
          have hzb : ((Wd : Int) != 0) = true := by simp; omega
          obtain ⟨Wm, hWm⟩ : ∃ m, m = Wd - 1 := ⟨_, rfl⟩
          have hsub : IntKind.u64.wrap ((Wd : Int) - 1) = (Wm : Int) := by rw [IntWalk.u64_in _ (by omega)]; omega
          have hand : bits .and .u64 (Wd : Int) (Wm : Int) = (W2 : Int) := by rw [hWm, u64_and_nat _ _ (by omega) (by omega), g4]
          have hand2 : bits .and .u64 (Wd : Int) ((Wd : Int) - 1) = (W2 : Int) := by rw [← hand]; congr 1; omega
          have hHD := Lib.hid hdec
          have HX0 := Lib.hid hx
          clear hj hat g3 hW2 g4 hdec hWm hlen hz hcy hx
          gi_wp2_with (refine ⟨trivial, ?_⟩; gi_at_call 50; refine (callsIn_wide.2 (HL.out wr HTZ.out)).mono ?_; rintro e w4 ⟨rfl, rfl⟩)
          refine hR.mono ?_
          rintro e W3 (⟨rfl, hJ3, hk3⟩ | ⟨rfl, hJx3⟩)
          · have HA3 := Lib.hid (HKP.out _ _ hk3 HAT.out)
            have HJ3 : Hid (J (memM M (64 * k + (j + 1))) W3) := by show J _ _; rw [← Nat.add_assoc, ← HX0.out, HG3.out]; exact hJ3
            have hs3 : W.heap.size ≤ W3.heap.size := Nat.le_trans hsz (HKS.out _ _ hk3)
            clear hJ3 hk3 hy hR
            gi_wp2
            go_roundw
            case rel => exact ⟨j + 1, by omega, by rw [← HW2.out], hs3, HA3, HJ3⟩
            case measure => have := hHD.out; simp [intOf]; omega
          · have HX := Lib.hid hJx3
            clear hJx3 hy hR
            gi_wp2
            refine bodyPost_ret (results_none rfl _ _ _) rfl ?_
            exact ⟨⟨_, rfl⟩, .inr ⟨memM M (64 * k + t) ++ [(x : Int)], HP.out, HX.out⟩⟩
    · have hkn : k = 1 + n := by omega
      have HJ4 := Lib.hid hj.out
      rw [hkn] at HJ4
      have l2 : ¬ (k : Int) < 1 + (n : Int) := by omega
      clear hj hat hkn
      gi_wp2
      go_end0
      first | exact ⟨⟨_, rfl⟩, .inl ⟨_, rfl, HJ4.out⟩⟩ | exact ⟨⟨_, rfl⟩, .inl HJ4.out⟩ | exact .inl HJ4.out
end Go.Proofs.YtoekdcobnmkpaaaGreatDoor
/-
  math/bits.OnesCount64: what it computes, step by step.
-/
namespace Go.Proofs.YtoekdcobnmkpaaaGreatDoor
open Go.RowKit

/-- What OnesCount64 computes. -/
def pop1 (x : Nat) : Nat := (x / 2 &&& 6148914691236517205) + (x &&& 6148914691236517205)
def pop2 (x : Nat) : Nat := (x / 4 &&& 3689348814741910323) + (x &&& 3689348814741910323)
def pop3 (x : Nat) : Nat := (x / 16 + x) &&& 1085102592571150095
def popS (x : Nat) : Nat :=
  (pop3 (pop2 (pop1 x)) + pop3 (pop2 (pop1 x)) / 256 + (pop3 (pop2 (pop1 x)) + pop3 (pop2 (pop1 x)) / 256) / 65536 + (pop3 (pop2 (pop1 x)) + pop3 (pop2 (pop1 x)) / 256 + (pop3 (pop2 (pop1 x)) + pop3 (pop2 (pop1 x)) / 256) / 65536) / 4294967296) &&& 127
theorem popS_le (x : Nat) : popS x ≤ 127 := Nat.and_le_right

end Go.Proofs.YtoekdcobnmkpaaaGreatDoor
/-
  bits.Set.Equal: two sets are equal exactly if their numbers are.
-/
namespace Go.Proofs.YtoekdcobnmkpaaaGreatDoor
open Go.RowKit

theorem wl_inj {A B n : Nat} (hA : A < 2 ^ (64 * n)) (hB : B < 2 ^ (64 * n)) (h : wl A n = wl B n) : A = B := by
  refine Nat.eq_of_testBit_eq fun j => ?_
  by_cases hj : j < 64 * n
  · have h1 := congrArg (fun l => (l.getD (j / 64) 0).testBit (j % 64)) h
    simp only [wl_getD _ _ _ (show j / 64 < n by omega), Nat.testBit_mod_two_pow, Nat.testBit_div_two_pow] at h1
    have h2 : j % 64 < 64 := by omega
    have h3 : j % 64 + 64 * (j / 64) = j := by omega
    simpa [h2, h3] using h1
  · rw [Nat.testBit_lt_two_pow (Nat.lt_of_lt_of_le hA (Nat.pow_le_pow_right (by omega) (by omega))), Nat.testBit_lt_two_pow (Nat.lt_of_lt_of_le hB (Nat.pow_le_pow_right (by omega) (by omega)))]

theorem Canon.inj {hs : List Nat} {A B : Nat} (h : Canon hs A) (k : Canon hs B) : A = B :=
  wl_inj h.lt k.lt (h.eq.symm.trans k.eq)

theorem Canon.le {a b : List Nat} {M : Nat} (h : Canon a M) (k : Canon b M) : b.length ≤ a.length := by
  rcases k.last with e | e
  · omega
  · by_cases hl : b.length ≤ a.length
    · exact hl
    · exfalso
      refine e (Nat.div_eq_of_lt (Nat.lt_of_lt_of_le h.lt (Nat.pow_le_pow_right (by omega) (by omega))))

theorem Canon.uniq {a b : List Nat} {M : Nat} (h : Canon a M) (k : Canon b M) : a = b := by
  have hl : a.length = b.length := Nat.le_antisymm (k.le h) (h.le k)
  rw [h.eq, k.eq, hl]

/-- A row of words, cell by cell. -/
theorem words_form {w : World} {v : Value} {xs : List Nat} (h : Words w v xs) : ∃ a c, v = .slice a xs.length c ∧ xs.length ≤ maxLen ∧ ∀ i, i < xs.length → ∃ g off, a = some ⟨g, off, none⟩ ∧ g < w.heap.size ∧ w.cell? ⟨g, off + i, none⟩ = some (.int .u64 (xs.getD i 0 : Nat)) := by
  rcases h with ⟨h, h2⟩ | ⟨g, off, cap, h, h1, h3, h4, h5⟩
  · exact ⟨none, 0, by rw [h, h2]; rfl, by rw [h2]; simp, fun i hi => by rw [h2] at hi; simp at hi⟩
  · exact ⟨_, _, h, by omega, fun i hi => ⟨g, off, rfl, h4, h5 i hi⟩⟩

theorem take_eq_succ {xs ys : List Nat} {k : Nat} (h : xs.take k = ys.take k) (hx : k < xs.length) (hy : k < ys.length) (he : xs.getD k 0 = ys.getD k 0) : xs.take (k + 1) = ys.take (k + 1) := by
  rw [List.take_succ_eq_append_getElem hx, List.take_succ_eq_append_getElem hy, h]
  simp only [List.getD_eq_getElem?_getD, List.getElem?_eq_getElem hx, List.getElem?_eq_getElem hy, Option.getD_some] at he
  rw [he]

set_option maxRecDepth 100000 in
set_option maxHeartbeats 1600000 in
theorem equalw_any (w : World) (v u : Value) (xs ys : List Nat) (hv : Words w v xs) (hu : Words w u ys) :
    Calls Tryz.prog 40 #[v, u] w fun e w' => e = .returned (.bool (decide (xs = ys))) ∧ Kept (fun _ => False) w w' := by
  obtain ⟨a, c, rfl, hm, hx⟩ := words_form hv
  obtain ⟨a', c', rfl, hm', hy⟩ := words_form hu
  have HX := Lib.hid hx; have HY := Lib.hid hy
  clear hx hy hv hu
  have hm1 : xs.length ≤ 9223372036854775807 := by unfold maxLen at hm; omega
  obtain ⟨n, hn⟩ : ∃ n, n = xs.length := ⟨_, rfl⟩
  obtain ⟨m, hmm⟩ : ∃ m, m = ys.length := ⟨_, rfl⟩
  rw [← hn, ← hmm]
  by_cases hne : n = m
  · have hyl : ys.length = n := by omega
    subst hne
    clear hmm
    go_enter Tryz.func40, Tryz.ntmps40
    rw [← hn] at hm1
    have HN := Lib.hid hn; have HYL := Lib.hid hyl; clear hn hyl hm hm'
    go_wp2_with fail
    go_loopw [13] (fun iv wr => ∃ k : Nat, k ≤ n ∧ iv = .int .i64 k ∧ Hid (xs.take k = ys.take k) ∧ Kept (fun _ => False) w wr) (fun iv _ => n - (intOf iv).toNat)
    case atStart => exact ⟨0, Nat.zero_le _, rfl, rfl, Kept.refl _ _⟩
    case round =>
      obtain ⟨k, hk, rfl, ht, hkw⟩ := hrel
      by_cases hlt : k < n
      · have hlt' : (k : Int) < (n : Int) := by omega
        have hk0 : (0 : Int) ≤ (k : Int) := by omega
        obtain ⟨g, off, rfl, hg, hc⟩ := HX.out k (by rw [← HN.out]; exact hlt)
        obtain ⟨g', off', rfl, hg', hc'⟩ := HY.out k (by rw [HYL.out]; exact hlt)
        obtain ⟨x, hx⟩ : ∃ x, x = xs.getD k 0 := ⟨_, rfl⟩
        obtain ⟨y, hy⟩ : ∃ y, y = ys.getD k 0 := ⟨_, rfl⟩
        rw [← hx] at hc
        rw [← hy] at hc'
        have c1 := (hkw.cell (p := ⟨g, off + k, none⟩) hg (fun h => h)).trans hc
        have c2 := (hkw.cell (p := ⟨g', off' + k, none⟩) hg' (fun h => h)).trans hc'
        have HX1 := Lib.hid hx; have HY1 := Lib.hid hy; clear hx hy hc hc'
        by_cases hxy : x = y
        · subst hxy
          go_wp2_with fail
          go_quiet (fail)
          go_wp2_with fail
          go_roundw
          case rel => exact ⟨k + 1, by omega, by go_num, take_eq_succ ht.out (by rw [← HN.out]; exact hlt) (by rw [HYL.out]; exact hlt) (by rw [← HX1.out, ← HY1.out]), hkw.drewN _⟩
          case measure => simp [intOf]; omega
        · have hb : ((x : Int) == (y : Int)) = false := by simp; omega
          go_wp2_with fail
          go_quiet (fail)
          go_wp2_with fail
          go_ret
          refine ⟨?_, hkw.drewN _⟩
          have : decide (xs = ys) = false := by
            simp only [decide_eq_false_iff_not]
            intro e
            exact hxy (by rw [HX1.out, HY1.out, e])
          rw [this]; rfl
      · obtain rfl : k = n := by omega
        go_wp2_with fail
        go_ret
        refine ⟨?_, hkw⟩
        have h := ht.out
        rw [List.take_of_length_le (by rw [← HN.out]; exact Nat.le_refl _), List.take_of_length_le (by rw [HYL.out]; exact Nat.le_refl _)] at h
        rw [show decide (xs = ys) = true by simpa using h]; rfl
  · have hd : decide (xs = ys) = false := by
      simp only [decide_eq_false_iff_not]
      intro e
      exact hne (by rw [hn, hmm, e])
    rw [hd]
    have hb : ((n : Int) == (m : Int)) = false := by simp; omega
    clear hd hn hmm hm1 hm hm'
    go_enter Tryz.func40, Tryz.ntmps40
    go_wp2_with fail
    go_ret
    exact ⟨rfl, Kept.refl _ _⟩

set_option maxRecDepth 100000 in
set_option maxHeartbeats 800000 in
/-- 'Equal' of any two sets. -/
theorem equal_any (w : World) (v u : Value) (M K : Nat) (hv : SetV w v M) (hu : SetV w u K) :
    Calls Tryz.prog 16 #[v, u] w fun e w' => e = .returned (.bool (decide (M = K))) ∧ Kept (fun _ => False) w w' := by
  obtain ⟨a, hs, rfl, hw, hc, _⟩ := hv.ex
  obtain ⟨b, ks, rfl, hw', hc', _⟩ := hu.ex
  obtain ⟨l1, hl1⟩ : ∃ l, l = M % 2 ^ 64 := ⟨_, rfl⟩
  obtain ⟨l2, hl2⟩ : ∃ l, l = K % 2 ^ 64 := ⟨_, rfl⟩
  rw [← hl1, ← hl2]
  obtain ⟨a1, c1, hf1⟩ := hw.form
  obtain ⟨a2, c2, hf2⟩ := hw'.form
  have hE := fun (W : World) (hk : Kept (fun _ => False) w W) => equalw_any W a b hs ks (hw.kept hk (fun _ _ h => h)) (hw'.kept hk (fun _ _ h => h))
  have HE := Lib.hid hE; clear hE
  generalize hs.length = n1 at hf1
  generalize ks.length = n2 at hf2
  subst hf1 hf2
  have hka : Kept (fun _ => False) w ((w.alloc (.cells #[.int .u64 l1, .slice a1 n1 c1] 27)).alloc (.cells #[.int .u64 l2, .slice a2 n2 c2] 27)) := (Kept.alloc _ _ _).then (Kept.alloc _ _ _)
  have HKA := Lib.hid hka; clear hka
  by_cases hl : l1 = l2
  · have hd : decide (M = K) = decide (hs = ks) := by
      congr 1
      refine propext ⟨fun e => ?_, fun e => ?_⟩
      · subst e; exact hc.uniq hc'
      · subst e
        have h3 := hc.inj hc'
        have h1 := Nat.div_add_mod M (2 ^ 64)
        have h2 := Nat.div_add_mod K (2 ^ 64)
        rw [← h1, ← h2, h3, ← hl1, ← hl2, hl]
    rw [hd]
    clear hd hl1 hl2 hv hu hw hw' hc hc'
    subst hl
    go_enter Tryz.func16, Tryz.ntmps16
    go_wp2_with fail
    refine (HE.out _ HKA.out).mono ?_
    rintro e w1 ⟨rfl, hk⟩
    go_wp2_with fail
    go_ret
    exact ⟨rfl, HKA.out.then hk⟩
  · have hd : decide (M = K) = false := by
      simp only [decide_eq_false_iff_not]
      intro e
      exact hl (by rw [hl1, hl2, e])
    rw [hd]
    have hb : ((l1 : Int) == (l2 : Int)) = false := by simp; omega
    clear hd hl1 hl2 hv hu hw hw' hc hc' HE
    go_enter Tryz.func16, Tryz.ntmps16
    go_wp2_with fail
    go_ret
    exact ⟨rfl, HKA.out⟩

end Go.Proofs.YtoekdcobnmkpaaaGreatDoor
/-
  bits.Set.List: the members in ascending order.
-/
namespace Go.Proofs.YtoekdcobnmkpaaaGreatDoor
open Go.RowKit
attribute [local go_sem ↓] Go.wp_at_zero Go.wp_at_succ
set_option linter.unusedSimpArgs false

/-- What Len computes. -/
def lenS (M : Nat) (hs : List Nat) : Nat := popS (M % 2 ^ 64) + (hs.map popS).sum
theorem pop_sum (hs : List Nat) (k : Nat) (h : k < hs.length) : ((hs.take (k + 1)).map popS).sum = ((hs.take k).map popS).sum + popS (hs.getD k 0) := by
  rw [List.take_succ_eq_append_getElem h]
  simp only [List.map_append, List.map_cons, List.map_nil, List.sum_append, List.sum_cons, List.sum_nil, Nat.add_zero]
  congr 2
  simp [List.getD, h]
theorem pop_bound : ∀ hs : List Nat, (hs.map popS).sum ≤ 127 * hs.length
  | [] => by simp
  | x :: xs => by
    have := pop_bound xs
    have h := popS_le x
    rw [List.map_cons, List.sum_cons, List.length_cons]; omega

end Go.Proofs.YtoekdcobnmkpaaaGreatDoor
/-
  bits.Set.List: the members in ascending order.
-/
namespace Go.Proofs.YtoekdcobnmkpaaaGreatDoor
open Go.RowKit
attribute [local go_sem ↓] Go.wp_at_zero Go.wp_at_succ
set_option linter.unusedSimpArgs false

theorem AllAt.blocks {a b : World} {B M : Nat} {hv : Value} {hs : List Nat} (h : AllAt a B M hv hs) (hsz : a.heap.size ≤ b.heap.size) (h1 : b.heap[B]? = a.heap[B]?) (h2 : ∀ k, hv.ownBlock = some k → b.heap[k]? = a.heap[k]?) (h3 : b.heap[3]? = a.heap[3]?) : AllAt b B M hv hs := by
  refine ⟨(World.cell?_of_block (w := a) h1).trans h.c0, (World.cell?_of_block (w := a) h1).trans h.c1, ?_, h.can, ⟨Nat.lt_of_lt_of_le h.tz.lt hsz, fun j hj => (World.cell?_of_block (w := a) h3).trans (h.tz.tab j hj)⟩⟩
  rcases h.words with hw | ⟨g, off, cap, rfl, e1, e2, e3, e4⟩
  · exact Or.inl hw
  · exact Or.inr ⟨g, off, cap, rfl, e1, e2, Nat.lt_of_lt_of_le e3 hsz, fun i hi => (World.cell?_of_block (w := a) (h2 g rfl)).trans (e4 i hi)⟩

/-- The iterator's contract, for whoever keeps what it reads. -/
theorem all_stops (S : Nat → Prop) (M' B M : Nat) (va : Option Addr) (vc : Nat) (hs : List Nat) (w : World) (hA : AllAt w B M (.slice va hs.length vc) hs) (hl : hs.length ≤ 63) (hB : B < M') (hB2 : ¬ S B)
    (hw : ∀ k, (Value.slice va hs.length vc).ownBlock = some k → k < M' ∧ ¬ S k) (hg : 3 < M') (hg2 : ¬ S 3) :
    SeqStopsK Fence.wide 2 Tryz.prog 48 #[.pointer (some ⟨B, 0, none⟩)] (fun x : Int => #[Value.int .i64 x]) (KeepM S M') (fun ys => ys = memM M (64 * (1 + hs.length))) (fun pre => pre <+: memM M (64 * (1 + hs.length))) (memM M (64 * (1 + hs.length))).length w := by
  intro l J Jx W hW hJ hJx hY h0
  have hBlt := World.block_lt_of_cell? w _ hA.c0
  have hA2 : AllAt W B M (.slice va hs.length vc) hs := hA.on (Kept.ofBelow _ hW)
  refine all1_in l B M va vc hs (KeepM S M') J Jx W (fun pre x W1 h1 h2 _ _ => hY pre x W1 h1 h2) (fun a b hk ha => ?_) (fun pre a b _ hj hk => hJ pre a b none hj (kept_grown hk) (fun r e => by cases e)) (fun a b hk => hk.size) hA2 hl h0
  have h1 := World.block_lt_of_cell? a _ ha.c0
  refine ha.blocks hk.size (hk.block B hB h1 hB2) (fun k hk2 => ?_) (hk.block _ hg ha.tz.lt hg2)
  exact hk.block k (hw k hk2).1 (ha.words.lt k hk2) (hw k hk2).2

/-- A number that can be a member. -/
abbrev Mem : Type := {x : Int // 0 ≤ x ∧ x ≤ 4095}
/-- The iterator's contract, for a consumer who asks that what comes can be a member. -/
theorem all_stopsM (S : Nat → Prop) (M' B M : Nat) (va : Option Addr) (vc : Nat) (hs : List Nat) (w : World) (hA : AllAt w B M (.slice va hs.length vc) hs) (hl : hs.length ≤ 63) (hB : B < M') (hB2 : ¬ S B)
    (hw : ∀ k, (Value.slice va hs.length vc).ownBlock = some k → k < M' ∧ ¬ S k) (hg : 3 < M') (hg2 : ¬ S 3) :
    SeqStopsK Fence.wide 2 Tryz.prog 48 #[.pointer (some ⟨B, 0, none⟩)] (fun x : Mem => #[Value.int .i64 x.1]) (KeepM S M') (fun ys => ys.map (·.1) = memM M (64 * (1 + hs.length))) (fun pre => pre.map (·.1) <+: memM M (64 * (1 + hs.length))) (memM M (64 * (1 + hs.length))).length w := by
  intro l J Jx W hW hJ hJx hY h0
  have hBlt := World.block_lt_of_cell? w _ hA.c0
  have hA2 : AllAt W B M (.slice va hs.length vc) hs := hA.on (Kept.ofBelow _ hW)
  refine (all1_in l B M va vc hs (KeepM S M') (fun pre V => ∃ p : List Mem, p.map (·.1) = pre ∧ J p V) (fun pre V => ∃ p : List Mem, p.map (·.1) = pre ∧ Jx p V) W (fun pre x W1 h1 h2 h3 h4 => ?_) (fun a b hk ha => ?_)
    (fun pre a b _ hj hk => hj.imp fun p hp => ⟨hp.1, hJ p a b none hp.2 (kept_grown hk) (fun r e => by cases e)⟩) (fun a b hk => hk.size) hA2 hl ⟨[], rfl, h0⟩).mono ?_
  · obtain ⟨p, rfl, hp⟩ := h1
    obtain ⟨fn, tmps, assign, body, hy, hR⟩ := hY p ⟨x, h3, h4⟩ W1 hp (by simpa using h2)
    refine ⟨fn, tmps, assign, body, hy, hR.mono ?_⟩
    rintro e W' (⟨rfl, a, b⟩ | ⟨rfl, a⟩)
    · exact .inl ⟨rfl, ⟨p ++ [⟨x, h3, h4⟩], by rw [List.map_append]; rfl, a⟩, b⟩
    · exact .inr ⟨rfl, ⟨p ++ [⟨x, h3, h4⟩], by rw [List.map_append]; rfl, a⟩⟩
  · have h1 := World.block_lt_of_cell? a _ ha.c0
    refine ha.blocks hk.size (hk.block B hB h1 hB2) (fun k hk2 => ?_) (hk.block _ hg ha.tz.lt hg2)
    exact hk.block k (hw k hk2).1 (ha.words.lt k hk2) (hw k hk2).2
  · rintro e W' ⟨he, ⟨ys, h1, p, rfl, h3⟩ | ⟨pre, h1, p, rfl, h3⟩⟩
    · exact ⟨he, .inl ⟨p, h1, h3⟩⟩
    · exact ⟨he, .inr ⟨p, h1, h3⟩⟩

theorem memM_all {M : Nat} {hs : List Nat} (hc : Canon hs (M / 2 ^ 64)) (hl : hs.length ≤ 63) : memM M (64 * (1 + hs.length)) = memM M 4096 := by
  have hlt : M < 2 ^ (64 * (1 + hs.length)) := by
    have h1 := hc.lt
    rw [show 64 * (1 + hs.length) = 64 * hs.length + 64 by omega, Nat.pow_add]
    exact (Nat.div_lt_iff_lt_mul (Nat.pow_pos (by omega))).1 h1
  have := memM_skip (M := M) (a := 64 * (1 + hs.length)) (4096 - 64 * (1 + hs.length)) fun i h1 _ => Nat.testBit_lt_two_pow (Nat.lt_of_lt_of_le hlt (Nat.pow_le_pow_right (by omega) h1))
  rw [show 64 * (1 + hs.length) + (4096 - 64 * (1 + hs.length)) = 4096 by omega] at this
  exact this.symm

set_option maxRecDepth 100000 in
theorem all_any (w : World) (lo : Nat) (va : Option Addr) (n vc : Nat) :
    Calls Tryz.prog 31 #[.agg #[.int .u64 lo, .slice va n vc]] w fun e w' => e = .returned (.func (.func 48) #[] #[.pointer (some ⟨w.heap.size, 0, none⟩)]) ∧ w' = w.alloc (.cells #[.int .u64 lo, .slice va n vc] 27) := by
  go_enter Tryz.func31, Tryz.ntmps31
  go_wp2_with fail
  go_ret
  exact ⟨rfl, rfl⟩

/-- The set's box behind All. -/
theorem allAt_new {w : World} {M : Nat} {va : Option Addr} {vc : Nat} {hs : List Nat} {k : Nat} (hw : Words w (.slice va k vc) hs) (hc : Canon hs (M / 2 ^ 64)) (hT : Tz w) :
    AllAt (w.alloc (.cells #[.int .u64 (M % 2 ^ 64 : Nat), .slice va k vc] 27)) w.heap.size M (.slice va k vc) hs :=
  ⟨by go_simp, by go_simp, hw.kept (Kept.alloc (fun _ => False) _ _) (fun _ _ h => h), hc, hT.kept (Kept.alloc (fun _ => False) _ _) (fun h => h)⟩

end Go.Proofs.YtoekdcobnmkpaaaGreatDoor
/-
  bits.Set.Text: the members in decimal between braces.
-/
namespace Go.Proofs.YtoekdcobnmkpaaaGreatDoor
open Go.RowKit Go.Shelf
attribute [local go_sem] Oper.semAt_some

theorem info_u8t : (Tryz.prog.info? 5).map (fun i => (i.zero, i.size, i.bytes)) = some (some (.int .u8 0), 1, 1) := by kernel_rfl

/-- What the text's loop holds: the row, and the variable that holds it. -/
structure TxAt (W : World) (b : Nat) (v : Value) (xs : List UInt8) : Prop where
  box : Boxed W (b + 2) 64 v
  row : W.ownsRow (b + 1) 5 1 v xs.length (Lib.byteCells xs)
  at_ : ∀ k, v.ownBlock = some k → k = b + 1 ∨ b + 4 ≤ k
def TxS (b : Nat) (k : Nat) : Prop := k = b + 1 ∨ k = b + 2

theorem OthersKept.box {e t : TypeId} {W W' : World} (h : Lib.OthersKept e none W W') {k : Nat} {cs : Array Value} {fz : Nat × Nat} (hk : W.heap[k]? = some (.cells cs t fz)) (ht : t ≠ e) : W'.heap[k]? = some (.cells cs t fz) :=
  h k _ hk (by simp) (fun c f e2 => by cases e2; exact ht rfl)

theorem tx_grow {W W' : World} {b : Nat} {v v' : Value} {xs ys : List UInt8} (h : TxAt W b v xs) {c3 : Array Value} (h3 : W.heap[b + 3]? = some (.cells c3 27 (0, 0)))
    (hown : W'.ownsRow (b + 1) 5 1 v' ys.length (Lib.byteCells ys)) (hb : Below (b + 1) W W') (ho : Lib.OthersKept 5 none W W') (B : Nat) :
    TxAt (W'.setCell ⟨b + 2, 0, none⟩ v') b v' ys ∧ KeepsFrom B W (W'.setCell ⟨b + 2, 0, none⟩ v') ∧ KeepM (TxS b) (b + 4) W (W'.setCell ⟨b + 2, 0, none⟩ v') := by
  have hbox : Boxed W' (b + 2) 64 v := OthersKept.box ho h.box (by decide)
  have h3' := OthersKept.box ho h3 (by decide)
  have hat : ∀ k, v'.ownBlock = some k → k = b + 1 ∨ b + 4 ≤ k := fun k hk => by
    obtain ⟨_, hh⟩ := hown
    rcases hh with ⟨rfl, _⟩ | ⟨g, cap, cur, rfl, h1, h2, _⟩
    · cases hk
    · have : g = k := by simpa [Value.ownBlock] using hk
      subst this
      by_cases e2 : g = b + 2
      · subst e2; rw [show W'.heap[b + 2]? = _ from hbox] at h2; cases h2
      · by_cases e3 : g = b + 3
        · subst e3; rw [h3'] at h2; cases h2
        · omega
  have hkc := Kept.setCell (fun k => k = b + 2) W' ⟨b + 2, 0, none⟩ v' rfl
  refine ⟨⟨hbox.set v', hkc.owns hown (fun k hk e => by have := hat k hk; omega), hat⟩, ?_, ?_⟩
  · refine KeepsFrom.trans ⟨hb.size, fun k o _ hk hc => ho k o hk (by simp) (fun c f e => by subst e; cases hc)⟩ (KeepsOthers.from (KeepsOthers.setCell W' _ v') B)
  · refine KeepM.trans (b := W') ⟨hb.os, hb.tape, hb.output, hb.size, fun k h1 h2 hn => ?_⟩ (KeepM.grown (grownBy_setCell' W' (b + 2) v') (fun r e => by cases e; exact Or.inr (Or.inr rfl)))
    by_cases e3 : k = b + 3
    · subst e3; exact h3'.trans h3.symm
    · exact hb.block k (by
        have h5 : ¬ (k = b + 1 ∨ k = b + 2) := hn
        omega)

theorem others_grown {W W1 : World} {tmp : Obj} {row : Option Nat} {e : TypeId} (hg : (W.alloc tmp).grownBy W1 row) (hrow : ∀ r, row = some r → ∃ c fz, W.heap[r]? = some (.cells c e fz)) : Lib.OthersKept e none W W1 := by
  intro k o hk _ ho
  have hlt : k < W.heap.size := (Array.getElem?_eq_some_iff.1 hk).1
  refine (hg.block k (by simp; omega) (fun e2 => ?_)).trans ((Below.heap_alloc W tmp k hlt).trans hk)
  obtain ⟨c, fz, h⟩ := hrow k e2.symm
  rw [hk] at h
  exact ho _ _ (Option.some.inj h)
theorem KeepM.below {S : Nat → Prop} {M B : Nat} {a b : World} (h : KeepM S M a b) (hM : B ≤ M) (hB : B ≤ a.heap.size) (hS : ∀ k, k < B → ¬ S k) : Below B a b :=
  ⟨h.os, h.tape, h.output, h.size, fun k hk => h.block k (by omega) (by omega) (hS k hk)⟩
theorem row_cells {W : World} {base : Nat} {e : TypeId} {size : Nat} {v : Value} {k : Nat} {xs : List Value} (h : W.ownsRow base e size v k xs) : ∀ r, v.ownBlock = some r → base ≤ r ∧ ∃ c fz, W.heap[r]? = some (.cells c e fz) := by
  intro r hr
  obtain ⟨_, hh⟩ := h
  rcases hh with ⟨rfl, _⟩ | ⟨g, cap, cur, rfl, h1, h2, _⟩
  · cases hr
  · have : g = r := by simpa [Value.ownBlock] using hr
    subst this
    exact ⟨h1, _, _, h2⟩
theorem row_slice {W : World} {base : Nat} {e : TypeId} {size : Nat} {v : Value} {k : Nat} {xs : List Value} (h : W.ownsRow base e size v k xs) (hk : 0 < k) : ∃ g cap, v = .slice (some ⟨g, 0, none⟩) k cap := by
  obtain ⟨_, hh⟩ := h
  rcases hh with ⟨_, h0⟩ | ⟨g, cap, cur, rfl, _⟩
  · omega
  · exact ⟨g, cap, rfl⟩
theorem tab_on {P : Program} {B B' : Nat} {w W : World} {name : String} {k : IntKind} {zs : List Int} (h : Lib.TabBelow P B w name k zs) (hb : Below B w W) (hB : B ≤ B') : Lib.TabBelow P B' W name k zs :=
  fun w' h' => h w' (hb.trans (h'.mono hB))

theorem conv_row {W1 : World} {base g' n cap' : Nat} {l : List UInt8} (h : W1.ownsRow base 5 1 (.slice (some ⟨g', 0, none⟩) n cap') n (Lib.byteCells l)) (hn : l.length = n) :
    (convert 64 9 (.slice (some ⟨g', 0, none⟩) n cap')).run Tryz.prog W1 = .ok (.string ⟨l.toArray⟩) W1 := by
  subst hn
  refine run_convert_bytes_back (P := Tryz.prog) W1 64 9 5 ⟨g', 0, none⟩ cap' l Tryz.underlying64 Tryz.underlying5 Tryz.underlying9 (fun j hj => ?_)
  have hadd : (⟨g', 0, none⟩ : Addr).add j = ⟨g', j, none⟩ := by unfold Addr.add; split <;> simp_all
  rw [hadd, h.cellAt j (by omega)]
  simp [Lib.byteCells, hj]

set_option maxRecDepth 100000 in
set_option maxHeartbeats 3200000 in
theorem text_at (w : World) (lo n vc : Nat) (va : Option Addr) (M : Nat) (hs : List Nat) (hlo : lo = M % 2 ^ 64) (hn : hs.length = n) (hw : Words w (.slice va n vc) hs) (hc : Canon hs (M / 2 ^ 64)) (hl : n ≤ 63) (hT : Tz w)
    (hP : Lib.TabBelow Tryz.prog w.heap.size w "internal/strconv.uint64pow10" .u64 Lib.pow10Tab) :
    Calls Tryz.prog 8 #[.agg #[.int .u64 lo, .slice va n vc]] w fun e w' => e = .returned (.string ⟨(textS M).toArray⟩) ∧ Kept (fun _ => False) w w' := by
  have HLO := Lib.hid hlo; have HN := Lib.hid hn
  clear hlo hn
  have hwlt := hw.lt; have hglt := hT.lt
  refine (callsIn_wide (n := 3)).1 ?_
  obtain ⟨i0, hi, hz0, hz1, hz2⟩ := info_parts info_u8t
  obtain ⟨w3, hw3⟩ : ∃ w3, w3 = ((w.alloc (.cells #[.int .u64 lo, .slice va n vc] 27)).alloc (.cells #[.int .u8 123] 5)).alloc (.cells #[.slice (some ⟨w.heap.size + 1, 0, none⟩) 1 1] 64) := ⟨_, rfl⟩
  have hk3 : Kept (fun _ => False) w w3 := by rw [hw3]; exact ((Kept.alloc _ _ _).then (Kept.alloc _ _ _)).then (Kept.alloc _ _ _)
  have hs3 : w3.heap.size = w.heap.size + 3 := by rw [hw3]; simp
  have hb3 : Boxed w3 (w.heap.size + 2) 64 (.slice (some ⟨w.heap.size + 1, 0, none⟩) 1 1) := by rw [hw3]; have := Boxed.new ((w.alloc (.cells #[.int .u64 lo, .slice va n vc] 27)).alloc (.cells #[.int .u8 123] 5)) 64 (.slice (some ⟨w.heap.size + 1, 0, none⟩) 1 1); simpa using this
  have hr3 : w3.ownsRow (w.heap.size + 1) 5 1 (.slice (some ⟨w.heap.size + 1, 0, none⟩) 1 1) 1 [.int .u8 123] := by
    rw [hw3]
    refine (Kept.alloc (fun _ => False) _ _).owns ?_ (fun _ _ h => h)
    have := owns_lit (w.alloc (.cells #[.int .u64 lo, .slice va n vc] 27)) (w.heap.size + 1) #[.int .u8 123] [123] 1 rfl rfl (by simp) (by decide)
    rw [show bv [123] = [Value.int .u8 123] from rfl] at this
    simpa using this
  obtain ⟨w1, hw1⟩ : ∃ w1, w1 = w3.alloc (.cells #[.int .u64 lo, .slice va n vc] 27) := ⟨_, rfl⟩
  have hk1 : Kept (fun _ => False) w3 w1 := by rw [hw1]; exact Kept.alloc _ _ _
  have hs1 : w1.heap.size = w.heap.size + 4 := by rw [hw1]; simp [hs3]
  have hob : w1.heap[w.heap.size + 3]? = some (.cells #[.int .u64 lo, .slice va n vc] 27 (0, 0)) := by rw [hw1, ← hs3]; exact heap_alloc_new w3 _
  have hAll : AllAt w1 (w.heap.size + 3) M (.slice va hs.length vc) hs := by
    rw [HN.out, hw1, ← hs3, HLO.out]
    exact allAt_new (hw.kept hk3 (fun _ _ h => h)) hc (hT.kept hk3 (fun h => h))
  have hS := all_stopsM (TxS w.heap.size) (w.heap.size + 4) (w.heap.size + 3) M va vc hs w1 hAll (by rw [HN.out]; exact hl) (by omega) (fun h => by unfold TxS at h; omega)
    (fun k hk => by rw [HN.out] at hk; have := hwlt k hk; exact ⟨by omega, fun h => by unfold TxS at h; omega⟩) (by omega) (fun h => by unfold TxS at h; omega)
  rw [memM_all hc (by rw [HN.out]; exact hl)] at hS
  have h01 : TxAt w1 w.heap.size (.slice (some ⟨w.heap.size + 1, 0, none⟩) 1 1) (txt []) := by
    refine ⟨?_, hk1.owns hr3 (fun _ _ h => h), fun k hk => Or.inl ?_⟩
    · show w1.heap[_]? = _
      rw [hk1.block _ (by omega) (fun h => h)]; exact hb3
    · simpa [Value.ownBlock] using hk.symm
  have HW1 := Lib.hid hw1; have HW3 := Lib.hid hw3; have HS := Lib.hid hS; have H01 := Lib.hid h01; have HK := Lib.hid (hk3.then hk1)
  have HS1 := Lib.hid hs1; have HOB := Lib.hid hob; have HML := Lib.hid (memM_le M 4096)
  clear hw1 hw3 hS h01 hk1 hk3 hs3 hb3 hr3 hs1 hob hAll hc hw hwlt
  refine callsIn_of_wp_marks Tryz.func8 rfl trivial ?_ rfl
  simp only [Tryz.ntmps8, List.size_toArray, List.length_cons, List.length_nil, Nat.reduceAdd, Nat.reduceSub, Array.replicate_succ, Array.replicate_zero, List.push_toArray, List.append_toArray, List.nil_append, List.cons_append]
  gi_wp2_with (refine ⟨trivial, ?_⟩; gi_at_call 31; refine (callsIn_wide.2 (all_any _ lo va n vc)).mono ?_; rintro e w1' ⟨rfl, hw1'⟩)
  have hq : w1' = w1 := by rw [hw1', HW1.out, HW3.out]
  rw [← hw1']
  clear hw1'
  subst hq
  have hs1 := HS1.out
  obtain ⟨p3, hp3⟩ : ∃ p3, p3 = w.heap.size + 1 + 1 + 1 := ⟨_, rfl⟩
  rw [← hp3]
  have hS := HS.out
  rw [show w.heap.size + 3 = p3 from hp3.symm] at hS
  clear hp3
  obtain ⟨p2, hp2⟩ : ∃ p2, p2 = w.heap.size + 1 + 1 := ⟨_, rfl⟩
  rw [← hp2]
  have HP2 := Lib.hid hp2
  clear hp2
  refine wpIn_rangeFunc_ownG rfl (by omega) (gf := 48) (lb := #[.pointer (some ⟨p3, 0, none⟩)]) rfl trivial (enters_of Tryz.func48 (by kernel_rfl) rfl)
    hS KeepM.trans (fun W l o o' hl h h1 h2 => KeepM.putB W l o o' (by rw [hs1] at hl; exact hl) h h1 h2) (Below.refl _ _) (fun _ => rfl)
    (fun pre W => (∃ v, TxAt W w.heap.size v (txt (pre.map (·.1)))) ∧ KeepM (TxS w.heap.size) (w.heap.size + 4) w1' W)
    (fun _ _ _ => False) ?_
    (fun _ _ _ _ _ hs _ _ => hs)
    ⟨⟨_, H01.out⟩, KeepM.refl _ _ _⟩
    (fun x => { tmps := #[.agg #[.int .u64 lo, .slice va n vc], .pointer (some ⟨w.heap.size, 0, none⟩), .string ⟨#[]⟩, .pointer (some ⟨p2, 0, none⟩), .int .i64 x.1, .slice (some ⟨w.heap.size + 1, 0, none⟩) 1 1, .agg #[.int .u64 lo, .slice va n vc], .func (.func 48) #[] #[.pointer (some ⟨p3, 0, none⟩)], .int .i64 x.1, undef, undef, undef, undef, undef, undef, undef, undef, undef, undef, undef, undef, undef], defers := [] }) ?assign ?body ?done ?stop
  · refine OwnFrom.and (fun s W W' row hs hg hr => ?_) (ownFrom_keepM (by omega))
    obtain ⟨v, h⟩ := hs
    have := (holdsRow_own (w.heap.size + 1) (w.heap.size + 2) 64 5 1 (fun s : List Mem => (txt (s.map (·.1))).length) (fun s : List Mem => Lib.byteCells (txt (s.map (·.1)))) (fun _ v => ∀ k, v.ownBlock = some k → k = w.heap.size + 1 ∨ w.heap.size + 4 ≤ k)).from _ s W W' row ⟨v, h.box, h.row, h.at_⟩ hg hr
    exact this.imp fun v h => ⟨h.1, h.2.1, h.2.2⟩
  case assign =>
    intro l x W K hK
    gi_wp2
    exact hK
  case body =>
    rintro l pre x W ⟨⟨v, ht⟩, hB⟩ hlt
    obtain ⟨xi, hx0, hx1⟩ := x
    have hml := HML.out
    have hBs := hB.size
    have h3 : W.heap[w.heap.size + 3]? = some (.cells #[.int .u64 lo, .slice va n vc] 27 (0, 0)) := (hB.block _ (by omega) (by omega) (fun h => by unfold TxS at h; omega)).trans HOB.out
    have hle := txt_le (pre.map (·.1)) (fun y hy => by
      obtain ⟨z, _, rfl⟩ := List.mem_map.1 hy
      have := z.2
      omega)
    have hsn := txt_snoc (pre.map (·.1)) xi
    have hge := txt_len (pre.map (·.1))
    rw [List.length_map] at hle
    have hmp : (pre ++ [(⟨xi, hx0, hx1⟩ : Mem)]).map (·.1) = pre.map (·.1) ++ [xi] := by rw [List.map_append]; rfl
    have HTB : Hid (∀ W2, Below (w.heap.size + 1) W W2 → Lib.TabBelow Tryz.prog (w.heap.size + 1) W2 "internal/strconv.uint64pow10" .u64 Lib.pow10Tab) := fun W2 h2 =>
      tab_on hP ((HK.out.below (B := w.heap.size) (Nat.le_refl _) (fun _ h => h.elim)).trans ((hB.below (B := w.heap.size) (by omega) (by omega) (fun k hk h => by unfold TxS at h; omega)).trans (h2.mono (by omega)))) (by omega)
    generalize txt (pre.map (·.1)) = xs at *
    have hc : W.cell? ⟨p2, 0, none⟩ = some v := by rw [HP2.out]; exact ht.box.cell
    have hf : W.frozen? ⟨p2, 0, none⟩ = false := by rw [HP2.out]; exact ht.box.frozen
    have HFIN : Hid (∀ (ys : List UInt8) W2 v2, ys ++ Lib.itoa xi = txt ((pre ++ [(⟨xi, hx0, hx1⟩ : Mem)]).map (·.1)) → TxAt W2 w.heap.size v2 ys → KeepsFrom w1'.heap.size W W2 → KeepM (TxS w.heap.size) (w.heap.size + 4) W W2 →
        ∀ W3 v3, W3.ownsRow (w.heap.size + 1) 5 1 v3 (ys.length + (Lib.itoa xi).length) (Lib.byteCells ys ++ Lib.byteCells (Lib.itoa xi)) → Below (w.heap.size + 1) W2 W3 → Lib.OthersKept 5 none W2 W3 →
        (W3.cell? ⟨p2, 0, none⟩ = some v2 ∧ W3.frozen? ⟨p2, 0, none⟩ = false) ∧ KeepsFrom w1'.heap.size W (W3.setCell ⟨p2, 0, none⟩ v3) ∧ KeepM (TxS w.heap.size) (w.heap.size + 4) W (W3.setCell ⟨p2, 0, none⟩ v3) ∧
          (∃ v, TxAt (W3.setCell ⟨p2, 0, none⟩ v3) w.heap.size v (txt ((pre ++ [(⟨xi, hx0, hx1⟩ : Mem)]).map (·.1)))) ∧ KeepM (TxS w.heap.size) (w.heap.size + 4) w1' (W3.setCell ⟨p2, 0, none⟩ v3)) := by
      intro ys W2 v2 he ht2 hk2 hm2 W3 v3 ho3 hb3 hk3
      have h32 : W2.heap[w.heap.size + 3]? = some (.cells #[.int .u64 lo, .slice va n vc] 27 (0, 0)) := (hm2.block _ (by omega) (by omega) (fun h => by unfold TxS at h; omega)).trans h3
      have hbx := OthersKept.box hk3 ht2.box (by decide)
      have e2 : Lib.byteCells ys ++ Lib.byteCells (Lib.itoa xi) = Lib.byteCells (ys ++ Lib.itoa xi) := by simp [Lib.byteCells]
      rw [e2, ← List.length_append, he] at ho3
      obtain ⟨a1, a2, a3⟩ := tx_grow (v' := v3) ht2 h32 ho3 hb3 hk3 w1'.heap.size
      rw [HP2.out]
      exact ⟨⟨Boxed.cell hbx, Boxed.frozen hbx⟩, hk2.trans a2, hm2.trans a3, ⟨_, a1⟩, (hB.trans hm2).trans a3⟩
    have HT := Lib.hid ht; have HBB := Lib.hid hB; have H3 := Lib.hid h3
    have hW0 : w.heap.size + 1 ≤ W.heap.size := by omega
    have hrc := row_cells ht.row
    obtain ⟨N, hN⟩ : ∃ N, xs.length = N + 1 := ⟨xs.length - 1, by omega⟩
    have hrow := ht.row
    rw [hN] at hrow
    obtain ⟨g, cap, rfl⟩ := ownsRow_succ hrow
    have hNb : N ≤ 100000 := by omega
    have HSN : Hid (∀ ys, ys = (if 1 < xs.length then xs ++ [32] else xs) → ys ++ Lib.itoa xi = txt ((pre ++ [(⟨xi, hx0, hx1⟩ : Mem)]).map (·.1))) := fun ys e => by rw [hmp, hsn, e]
    have HROW := Lib.hid hrow; have HRC := Lib.hid hrc
    have HNN := Lib.hid hN
    clear hsn hmp hrow hrc hle hge ht hB h3 hml hlt hN
    by_cases h1 : 1 < xs.length
    · have h1' : (1 : Int) < (N : Int) + 1 := by have := HNN.out; omega
      have H1 := Lib.hid h1; clear h1
      gi_wp2_with (first
        | (gi_at_builtin; refine wpListIn_append_own_at _ rfl _ _ 64 rfl (w.heap.size + 1) 5 i0 (.int .u8 0) 1 1 Tryz.underlying64 hi hz0 hz1 hz2 rfl (by decide) _ _ _ rfl (HROW.out.alloc _) ⟨W.heap.size, 0, none⟩ 1 1 [.int .u8 32] rfl rfl (cell_one_new _ _ _) (by simp [Value.oneCell']) (by unfold maxLen; omega) (by omega) (by simp; omega) ?_
           intro v' W1 hown' hgrow _ hloc
           obtain ⟨g', cap', rfl⟩ := ownsRow_succ hown'
           have ho1 := others_grown hgrow (fun r e => (HRC.out r e).2)
           have hb1 : Below (w.heap.size + 1) W W1 := ((Below.refl (w.heap.size + 1) W).alloc hW0 _).grown hgrow (by simp; omega) (fun k e => (HRC.out k e).1)
           have e32 : Lib.byteCells xs ++ [.int .u8 32] = Lib.byteCells (xs ++ [32]) := by simp [Lib.byteCells]
           have hown2 : W1.ownsRow (w.heap.size + 1) 5 1 (.slice (some ⟨g', 0, none⟩) (N + 1 + 1) cap') (xs ++ [32]).length (Lib.byteCells (xs ++ [32])) := by rw [← e32, List.length_append, HNN.out]; exact hown'
           have hbx1 := OthersKept.box ho1 HT.out.box (by decide)
           have hc1 : W1.cell? ⟨p2, 0, none⟩ = some (.slice (some ⟨g, 0, none⟩) (N + 1) cap) := by rw [HP2.out]; exact Boxed.cell hbx1
           have hf1 : W1.frozen? ⟨p2, 0, none⟩ = false := by rw [HP2.out]; exact Boxed.frozen hbx1
           have hgr := tx_grow HT.out H3.out hown2 hb1 ho1 w1'.heap.size
           rw [show (⟨w.heap.size + 2, 0, none⟩ : Addr) = ⟨p2, 0, none⟩ by rw [HP2.out]] at hgr
           have HGR := Lib.hid hgr; have HO1 := Lib.hid ho1; have HB1 := Lib.hid hb1
           clear hown' hgrow hloc ho1 hb1 e32 hown2 hbx1 hgr)
        | (refine ⟨trivial, ?_⟩; gi_at_call 32
           obtain ⟨ht2, hk2, hm2⟩ := HGR.out
           have hrow2 := ht2.row
           have hl2 : (xs ++ [32]).length = N + 1 + 1 := by rw [List.length_append, HNN.out]; rfl
           rw [hl2] at hrow2
           have hb2 : Below (w.heap.size + 1) W (W1.setCell ⟨p2, 0, none⟩ (.slice (some ⟨g', 0, none⟩) (N + 1 + 1) cap')) := hm2.below (by omega) (by omega) (fun k hk h => by unfold TxS at h; omega)
           have hAI := sh_AppendInt (w.heap.size + 1) (N + 1 + 1) xi (by omega) (by omega) (.slice (some ⟨g', 0, none⟩) (N + 1 + 1) cap') (Lib.byteCells (xs ++ [32])) _ hrow2 (by have := hb2.size; omega) (by omega) (HTB.out _ hb2)
           have HF := HFIN.out (xs ++ [32]) _ _ (HSN.out (xs ++ [32]) (by rw [if_pos H1.out])) ht2 hk2 hm2
           rw [hl2] at HF
           refine (callsIn_wide.2 hAI).mono ?_; rintro e W3 ⟨v3, rfl, ho3, hb3, hk3⟩; obtain ⟨g3, cap3, rfl⟩ := row_slice ho3 (by omega); obtain ⟨⟨hc3, hf3⟩, hres⟩ := HF W3 _ ho3 hb3 hk3; have HRES := Lib.hid hres; clear hres ho3 hb3 hk3 HF hAI hrow2 hl2 ht2 hk2 hm2 hb2))
      exact HRES.out
    · have h1' : ¬ (1 : Int) < (N : Int) + 1 := by have := HNN.out; omega
      have hAI := sh_AppendInt (w.heap.size + 1) (N + 1) xi (by omega) (by omega) (.slice (some ⟨g, 0, none⟩) (N + 1) cap) (Lib.byteCells xs) W HROW.out hW0 (by omega) (HTB.out W (Below.refl _ _))
      have HAI := Lib.hid hAI
      have HF := Lib.hid (HFIN.out xs W _ (HSN.out xs (by rw [if_neg h1])) HT.out (KeepsFrom.refl _ _) (KeepM.refl _ _ _))
      rw [HNN.out] at HF
      clear hAI h1 HFIN
      gi_wp2_with (refine ⟨trivial, ?_⟩; gi_at_call 32; refine (callsIn_wide.2 HAI.out).mono ?_; rintro e W3 ⟨v3, rfl, ho3, hb3, hk3⟩; obtain ⟨g3, cap3, rfl⟩ := row_slice ho3 (by omega); obtain ⟨⟨hc3, hf3⟩, hres⟩ := HF.out W3 _ ho3 hb3 hk3; have HRES := Lib.hid hres; clear hres ho3 hb3 hk3)
      exact HRES.out
  case done =>
    rintro D ys W hD hys ⟨⟨v, ht⟩, hB⟩ hK
    have hml := HML.out
    have hBs := hB.size
    have hle := txt_le (ys.map (·.1)) (fun y hy => by
      obtain ⟨z, _, rfl⟩ := List.mem_map.1 hy
      have := z.2
      omega)
    have hge := txt_len (ys.map (·.1))
    have hl4 := congrArg List.length hys
    rw [List.length_map] at hle hl4
    have htx : txt (ys.map (·.1)) ++ [125] = textS M := by rw [hys]; rfl
    generalize txt (ys.map (·.1)) = xs at *
    have hc : W.cell? ⟨p2, 0, none⟩ = some v := by rw [HP2.out]; exact ht.box.cell
    have hrc := row_cells ht.row
    obtain ⟨N, hN⟩ : ∃ N, xs.length = N + 1 := ⟨xs.length - 1, by omega⟩
    have hrow := ht.row
    rw [hN] at hrow
    obtain ⟨g, cap, rfl⟩ := ownsRow_succ hrow
    have hNb : N ≤ 100000 := by omega
    have HROW := Lib.hid hrow; have HRC := Lib.hid hrc; have HT := Lib.hid ht; have HBB := Lib.hid hB; have HTX := Lib.hid htx; have HNN := Lib.hid hN; have HKD := Lib.hid hK
    clear hrow hrc ht hB htx hN hys hle hge hl4 hml hK
    gi_wp2_with (gi_at_builtin; refine wpListIn_append_own_at _ rfl _ _ 64 rfl (w.heap.size + 1) 5 i0 (.int .u8 0) 1 1 Tryz.underlying64 hi hz0 hz1 hz2 rfl (by decide) _ _ _ rfl (HROW.out.alloc _) ⟨W.heap.size, 0, none⟩ 1 1 [.int .u8 125] rfl rfl (cell_one_new _ _ _) (by simp [Value.oneCell']) (by unfold maxLen; omega) (by omega) (by simp; omega) ?_
                 intro v' W1 hown' hgrow _ hloc
                 obtain ⟨g', cap', rfl⟩ := ownsRow_succ hown'
                 have e25 : Lib.byteCells xs ++ [.int .u8 125] = Lib.byteCells (textS M) := by rw [← HTX.out]; simp [Lib.byteCells]
                 rw [e25] at hown'
                 have kc := conv_row hown' (by rw [← HTX.out, List.length_append, HNN.out]; rfl)
                 have HG := Lib.hid hgrow
                 clear hown' hgrow hloc)
    have hKD1 : W1.heap[D]? = some (.deferred (some [])) := by
      have hlt : D < W.heap.size := (Array.getElem?_eq_some_iff.1 HKD.out).1
      refine (HG.out.block D (by simp; omega) (fun e2 => ?_)).trans ((Below.heap_alloc W _ D hlt).trans HKD.out)
      obtain ⟨_, c, fz, h⟩ := HRC.out D e2.symm
      rw [HKD.out] at h
      cases h
    refine ⟨by simp, .inl ⟨_, _, rfl, run_takeDeferred hKD1, ?_⟩⟩
    have hm := (HBB.out.trans ((KeepM.grown (S := TxS w.heap.size) (M := w.heap.size + 4) (World.grownBy_alloc W _ none) (fun r e => by cases e)).trans (KeepM.grown HG.out (fun r e => (HT.out.at_ r e).elim (fun h => Or.inr (Or.inl h)) Or.inl)))).trans (KeepM.putB W1 D _ (.deferred none) (by omega) hKD1 rfl rfl)
    exact ⟨_, results_tmp rfl _ _ _, rfl, HK.out.trans (hm.kept (by omega)) (fun _ _ h => h.elim) (fun i hi h => by unfold TxS at h; omega)⟩
  case stop =>
    rintro D c pre W _ _ h _
    exact h.elim

/-- The text of a set. -/
theorem text_any (w : World) (v : Value) (M : Nat) (h : SetV w v M) (hS : Small M) (hT : Tz w) (hP : Lib.TabBelow Tryz.prog w.heap.size w "internal/strconv.uint64pow10" .u64 Lib.pow10Tab) :
    Calls Tryz.prog 8 #[v] w fun e w' => e = .returned (.string ⟨(textS M).toArray⟩) ∧ Kept (fun _ => False) w w' := by
  obtain ⟨hv, hs, rfl, hw, hc, -⟩ := h.ex
  obtain ⟨va, vc, rfl⟩ := hw.form
  exact text_at w _ _ vc va M hs rfl rfl hw hc (hc.small hS) hT hP
end Go.Proofs.YtoekdcobnmkpaaaGreatDoor
/-
  bits.Set: Has; With of a member below 64 or that is there.
-/
namespace Go.Proofs.YtoekdcobnmkpaaaGreatDoor
open Go.RowKit

theorem word_bit (M i : Nat) : (M / 2 ^ (64 * (i / 64)) % 2 ^ 64) &&& 2 ^ (i % 64) = if M.testBit i = true then 2 ^ (i % 64) else 0 := by
  apply Nat.eq_of_testBit_eq
  intro j
  rw [Nat.testBit_and, Nat.testBit_mod_two_pow, Nat.testBit_div_two_pow, Nat.testBit_two_pow]
  by_cases hj : i % 64 = j
  · subst hj
    have h1 : i % 64 < 64 := Nat.mod_lt _ (by omega)
    have h3 : i % 64 + 64 * (i / 64) = i := by omega
    cases hM : M.testBit i <;> simp [h1, h3, hM]
  · cases hM : M.testBit i <;> simp [hj]

set_option maxRecDepth 100000 in
set_option maxHeartbeats 1600000 in
theorem has_any (w : World) (v : Value) (M i : Nat) (h : SetV w v M) (hi : i ≤ 4095) :
    Calls Tryz.prog 23 #[v, .int .i64 i] w fun e w' => e = .returned (.bool (M.testBit i)) ∧ Kept (fun _ => False) w w' := by
  obtain ⟨hv, hs, rfl, hw, hc, _⟩ := h.ex
  obtain ⟨k, hk⟩ : ∃ k, k = i / 64 := ⟨_, rfl⟩
  obtain ⟨lo, hlo⟩ : ∃ lo, lo = M % 2 ^ 64 := ⟨_, rfl⟩
  obtain ⟨y, hy⟩ : ∃ y, y = M / 2 ^ (64 * k) % 2 ^ 64 := ⟨_, rfl⟩
  obtain ⟨b, hb⟩ : ∃ b, b = 2 ^ (i % 64) := ⟨_, rfl⟩
  have hwd : wd lo hs k = y := by rw [hlo, hy]; exact wd_word M hs hc k
  have hyl : y < 2 ^ 64 := by rw [hy]; exact Nat.mod_lt _ (by decide)
  have hbl : b < 2 ^ 64 := by rw [hb]; exact Nat.pow_lt_pow_right (by omega) (Nat.mod_lt _ (by omega))
  have hb0 : b ≠ 0 := by rw [hb]; exact Nat.ne_of_gt (Nat.pow_pos (by omega))
  have hand : y &&& b = if M.testBit i = true then b else 0 := by rw [hy, hb, hk]; exact word_bit M i
  obtain ⟨T, hT⟩ : ∃ T, T = M.testBit i := ⟨_, rfl⟩
  rw [← hT] at hand ⊢
  have hxa : bits .and .u64 (y : Int) (b : Int) = ((y &&& b : Nat) : Int) := by rw [u64_and_nat _ _ (by omega) (by omega)]
  obtain ⟨z, hz⟩ : ∃ z, z = y &&& b := ⟨_, rfl⟩
  rw [← hz] at hxa hand
  have hkw := hw.kept (Kept.alloc (fun _ => False) w (.cells #[.int .u64 lo, hv] 27)) (fun _ _ h => h)
  have HWD := Lib.hid (word_any (w.alloc (.cells #[.int .u64 lo, hv] 27)) lo hv hs k hkw (by omega))
  have HB := Lib.hid (fun (W : World) => bit_any W i b (by omega) hb)
  rw [hwd] at HWD
  rw [← hlo]
  have hE : Hid ((i : Int).tdiv 64 = (k : Int) ∧ (i : Int) / 64 = (k : Int)) := ⟨by rw [Int.tdiv_eq_ediv_of_nonneg (by omega)]; omega, by omega⟩
  have hcs : (T = true ∧ z ≠ 0) ∨ (T = false ∧ z = 0) := by
    cases T with
    | true => rw [if_pos rfl] at hand; exact Or.inl ⟨rfl, by rw [hand]; exact hb0⟩
    | false => rw [if_neg (by decide)] at hand; exact Or.inr ⟨rfl, hand⟩
  clear hk hlo hy hb hwd hand hT hz hkw hw hc h hyl hbl hb0
  obtain ⟨e1, e2⟩ := hE.out
  have hcs : (T = true ∧ z ≠ 0 ∧ ((z : Int) != 0) = true) ∨ (T = false ∧ z = 0 ∧ ((z : Int) != 0) = false) := by
    rcases hcs with ⟨h1, h2⟩ | ⟨h1, h2⟩
    · exact Or.inl ⟨h1, h2, by simp; omega⟩
    · exact Or.inr ⟨h1, h2, by simp [h2]⟩
  rcases hcs with ⟨rfl, hz, hzi⟩ | ⟨rfl, rfl, hzi⟩
  all_goals
    go_enter Tryz.func23, Tryz.ntmps23
    go_wp2_with fail
    refine (possible_yes _ _ (by omega) (by omega)).mono ?_
    rintro e w1 ⟨rfl, rfl⟩
    go_wp2_with fail
    refine HWD.out.mono ?_
    rintro e w1 ⟨rfl, hk1⟩
    have K1 := Lib.hid ((Kept.alloc (fun _ => False) w (.cells #[.int .u64 lo, hv] 27)).then hk1)
    clear hk1
    go_wp2_with fail
    refine (HB.out w1).mono ?_
    rintro e w2 ⟨rfl, rfl⟩
    go_wp2_with fail
    go_ret
    exact ⟨by simp, K1.out⟩
end Go.Proofs.YtoekdcobnmkpaaaGreatDoor
/-
  bits.Set: With of a member (from 0 to 4095).
-/
namespace Go.Proofs.YtoekdcobnmkpaaaGreatDoor
open Go.RowKit

theorem or_same (M i : Nat) (h : M.testBit i = true) : M ||| 2 ^ i = M := by
  refine Nat.eq_of_testBit_eq fun j => ?_
  rw [Nat.testBit_or, Nat.testBit_two_pow]
  by_cases hj : i = j
  · subst hj; simp [h]
  · simp [hj]

theorem or_low_mod (M i : Nat) (h : i < 64) : (M ||| 2 ^ i) % 2 ^ 64 = M % 2 ^ 64 ||| 2 ^ i := by
  have := word_or M i 0
  rw [if_pos (by omega), Nat.mod_eq_of_lt h] at this
  simpa using this

theorem or_low_div (M i : Nat) (h : i < 64) : (M ||| 2 ^ i) / 2 ^ 64 = M / 2 ^ 64 := by
  refine Nat.eq_of_testBit_eq fun j => ?_
  rw [Nat.testBit_div_two_pow, Nat.testBit_div_two_pow, Nat.testBit_or, Nat.testBit_two_pow]
  have : ¬ i = j + 64 := by omega
  simp [this]

theorem or_high_mod (M i : Nat) (h : 64 ≤ i) : (M ||| 2 ^ i) % 2 ^ 64 = M % 2 ^ 64 := by
  have := word_or M i 0
  rw [if_neg (by omega)] at this
  simpa using this

theorem or_high_div (M i : Nat) (h : 64 ≤ i) : (M ||| 2 ^ i) / 2 ^ 64 = M / 2 ^ 64 ||| 2 ^ (i - 64) := by
  refine Nat.eq_of_testBit_eq fun j => ?_
  rw [Nat.testBit_div_two_pow, Nat.testBit_or, Nat.testBit_or, Nat.testBit_two_pow, Nat.testBit_two_pow, Nat.testBit_div_two_pow]
  have : (i = j + 64) ↔ (i - 64 = j) := by omega
  simp [this]

/-- The words with room for a further one are the number's words. -/
theorem wl_room (hs : List Nat) (M m : Nat) (h : Canon hs M) (hm : hs.length ≤ m) : hs ++ List.replicate (m - hs.length) 0 = wl M m := by
  refine List.ext_getElem (by simp [wl_length]; omega) fun i h1 h2 => ?_
  have hi : i < m := by simpa [wl_length] using h2
  have e2 : (wl M m)[i] = M / 2 ^ (64 * i) % 2 ^ 64 := by simp [wl]
  rw [e2]
  by_cases hlt : i < hs.length
  · rw [List.getElem_append_left hlt]
    have := congrArg (fun l => l.getD i 0) h.eq
    simp only [wl_getD _ _ _ hlt] at this
    rw [← this]
    simp [List.getD, hlt]
  · rw [List.getElem_append_right (by omega)]
    have hM : M < 2 ^ (64 * i) := Nat.lt_of_lt_of_le h.lt (Nat.pow_le_pow_right (by omega) (by omega))
    rw [Nat.div_eq_of_lt hM]
    simp

/-- With a further member the words are still no more than asked for. -/
theorem canon_with (hs : List Nat) (M j m : Nat) (h : Canon hs M) (hm : m = max hs.length (j / 64 + 1)) : Canon (wl (M ||| 2 ^ j) m) (M ||| 2 ^ j) := by
  have hM : M < 2 ^ (64 * m) := Nat.lt_of_lt_of_le h.lt (Nat.pow_le_pow_right (by omega) (by omega))
  refine ⟨by rw [wl_length], ?_, Or.inr ?_⟩
  · rw [wl_length]
    exact Nat.or_lt_two_pow hM (Nat.pow_lt_pow_right (by omega) (by omega))
  · rw [wl_length]
    intro h0
    have hz : ∀ x, (M ||| 2 ^ j).testBit (x + 64 * (m - 1)) = false := fun x => by
      have := congrArg (fun n => n.testBit x) h0
      simpa [Nat.testBit_div_two_pow] using this
    by_cases hj : m = j / 64 + 1
    · have := hz (j % 64)
      rw [show j % 64 + 64 * (m - 1) = j by omega, Nat.testBit_or, Nat.testBit_two_pow] at this
      simp at this
    · rcases h.last with e | e
      · omega
      · refine e (Nat.eq_of_testBit_eq fun x => ?_)
        have := hz x
        rw [Nat.testBit_or] at this
        rw [Nat.testBit_div_two_pow, show hs.length - 1 = m - 1 by omega]
        simp at this
        simp [this.1]

/-- With's frame: the set in a block of its own, the result in the next one. -/
structure Fr (w w1 : World) (lo : Nat) (v : Value) : Prop where
  c0 : w1.cell? ⟨w.heap.size, 0, none⟩ = some (.int .u64 lo)
  c1 : w1.cell? ⟨w.heap.size, 1, none⟩ = some v
  r0 : w1.cell? ⟨w.heap.size + 1, 0, none⟩ = some (.int .u64 0)
  r1 : w1.cell? ⟨w.heap.size + 1, 1, none⟩ = some (.slice none 0 0)
  f0 : w1.frozen? ⟨w.heap.size + 1, 0, none⟩ = false
  f1 : w1.frozen? ⟨w.heap.size + 1, 1, none⟩ = false
  lt : w.heap.size + 1 < w1.heap.size
  kept : Kept (fun _ => False) w w1

theorem Fr.new {w w1 : World} {lo : Nat} {a : Option Addr} {n c : Nat} (h : Kept (fun _ => False) ((w.alloc (.cells #[.int .u64 lo, .slice a n c] 27)).alloc (.cells #[.int .u64 0, .slice none 0 0] 27)) w1) : Fr w w1 lo (.slice a n c) := by
  have hs : ((w.alloc (.cells #[.int .u64 lo, .slice a n c] 27)).alloc (.cells #[.int .u64 0, .slice none 0 0] 27)).heap.size = w.heap.size + 2 := by simp
  exact ⟨(h.cell (p := ⟨w.heap.size, 0, none⟩) (by rw [hs]; exact Nat.lt_succ_of_lt (Nat.lt_succ_self _)) (fun h => h)).trans (by go_simp),
    (h.cell (p := ⟨w.heap.size, 1, none⟩) (by rw [hs]; exact Nat.lt_succ_of_lt (Nat.lt_succ_self _)) (fun h => h)).trans (by go_simp),
    (h.cell (p := ⟨w.heap.size + 1, 0, none⟩) (by rw [hs]; exact Nat.lt_succ_self _) (fun h => h)).trans (by go_simp),
    (h.cell (p := ⟨w.heap.size + 1, 1, none⟩) (by rw [hs]; exact Nat.lt_succ_self _) (fun h => h)).trans (by go_simp),
    (h.frozen (p := ⟨w.heap.size + 1, 0, none⟩) (by rw [hs]; exact Nat.lt_succ_self _) (fun h => h)).trans (by go_simp),
    (h.frozen (p := ⟨w.heap.size + 1, 1, none⟩) (by rw [hs]; exact Nat.lt_succ_self _) (fun h => h)).trans (by go_simp),
    Nat.lt_of_lt_of_le (by rw [hs]; exact Nat.lt_succ_self _) h.size,
    ((Kept.alloc (fun _ => False) w _).then (Kept.alloc (fun _ => False) _ _)).trans h (fun _ _ h => h) (fun _ _ h => h)⟩

theorem Fr.drew {w w1 : World} {lo : Nat} {v : Value} (h : Fr w w1 lo v) : Fr w w1.drew lo v := ⟨h.c0, h.c1, h.r0, h.r1, h.f0, h.f1, h.lt, h.kept.drew⟩

theorem Fr.keptS {w a b : World} {lo : Nat} {v : Value} {S : Nat → Prop} (h : Fr w a lo v) (hk : Kept S a b) (hn : ∀ k, k ≤ w.heap.size + 1 → ¬ S k) : Fr w b lo v := by
  have l0 : w.heap.size < a.heap.size := Nat.lt_of_succ_lt h.lt
  have n0 := hn w.heap.size (Nat.le_succ _)
  have n1 := hn (w.heap.size + 1) (Nat.le_refl _)
  exact ⟨(hk.cell (p := ⟨w.heap.size, 0, none⟩) l0 n0).trans h.c0, (hk.cell (p := ⟨w.heap.size, 1, none⟩) l0 n0).trans h.c1,
    (hk.cell (p := ⟨w.heap.size + 1, 0, none⟩) h.lt n1).trans h.r0, (hk.cell (p := ⟨w.heap.size + 1, 1, none⟩) h.lt n1).trans h.r1,
    (hk.frozen (p := ⟨w.heap.size + 1, 0, none⟩) h.lt n1).trans h.f0, (hk.frozen (p := ⟨w.heap.size + 1, 1, none⟩) h.lt n1).trans h.f1,
    Nat.lt_of_lt_of_le h.lt hk.size, h.kept.trans hk (fun _ _ h => h) (fun i hi e => hn i (by omega) e)⟩

theorem Fr.fin {w w1 : World} {lo : Nat} {v : Value} (h : Fr w w1 lo v) (x y : Value) : Kept (fun _ => False) w ((w1.setCell ⟨w.heap.size + 1, 0, none⟩ x).setCell ⟨w.heap.size + 1, 1, none⟩ y) :=
  h.kept.trans ((Kept.setCell (fun k => k = w.heap.size + 1) _ ⟨w.heap.size + 1, 0, none⟩ x rfl).trans (Kept.setCell (fun k => k = w.heap.size + 1) _ ⟨w.heap.size + 1, 1, none⟩ y rfl) (fun _ _ h => h) (fun _ _ h => h)) (fun _ _ h => h) (fun i hi e => by omega)

set_option maxRecDepth 100000 in
set_option maxHeartbeats 1600000 in
theorem with_same (w : World) (v : Value) (M i : Nat) (h : SetV w v M) (hi : i ≤ 4095) (hb : M.testBit i = true) :
    Calls Tryz.prog 6 #[v, .int .i64 i] w fun e w' => e = .returned v ∧ Kept (fun _ => False) w w' := by
  obtain ⟨hv, hs, rfl, hw, hc, hnil⟩ := h.ex
  obtain ⟨a, c, rfl⟩ := hw.form
  have HH := Lib.hid (fun (W : World) (kw : Kept (fun _ => False) w W) => has_any W _ M i ⟨_, _, rfl, hw.kept kw (fun _ _ h => h), hc, hnil⟩ hi)
  rw [hb] at HH
  clear hw hc hnil h hb
  generalize hs.length = n at HH ⊢
  generalize M % 2 ^ 64 = lo at HH ⊢
  have KA := Lib.hid ((Kept.alloc (fun _ => False) w (.cells #[.int .u64 lo, .slice a n c] 27)).then (Kept.alloc (fun _ => False) _ (.cells #[.int .u64 0, .slice none 0 0] 27)))
  go_enter Tryz.func6, Tryz.ntmps6
  go_wp2_with fail
  refine (possible_yes _ _ (by omega) (by omega)).mono ?_
  rintro e w1 ⟨rfl, rfl⟩
  go_wp2_with fail
  refine (HH.out _ KA.out).mono ?_
  rintro e w1 ⟨rfl, hk1⟩
  have fr := Fr.new hk1
  clear hk1
  have FR := Lib.hid fr
  obtain ⟨c0, c1, r0, r1, f0, f1, lt, _⟩ := fr
  go_wp2
  refine bodyPost_ret (v := .agg #[.int .u64 lo, .slice a n c]) (by simp [results, Tryz.results6, go_sem, r0, r1]) rfl ⟨rfl, FR.out.fin _ _⟩

set_option maxRecDepth 100000 in
set_option maxHeartbeats 1600000 in
theorem with_low (w : World) (v : Value) (M i : Nat) (h : SetV w v M) (hi : i < 64) (hb : M.testBit i = false) :
    Calls Tryz.prog 6 #[v, .int .i64 i] w fun e w' => ∃ v', e = .returned v' ∧ SetV w' v' (M ||| 2 ^ i) ∧ (∀ k, setBlk v' k → setBlk v k ∨ w.heap.size ≤ k) ∧ Kept (fun _ => False) w w' := by
  obtain ⟨hv, hs, rfl, hw, hc, hnil⟩ := h.ex
  obtain ⟨a, c, rfl⟩ := hw.form
  have HH := Lib.hid (fun (W : World) (kw : Kept (fun _ => False) w W) => has_any W _ M i ⟨_, _, rfl, hw.kept kw (fun _ _ h => h), hc, hnil⟩ (by omega))
  rw [hb] at HH
  obtain ⟨b, hbb⟩ : ∃ b, b = 2 ^ (i % 64) := ⟨_, rfl⟩
  have HB := Lib.hid (fun (W : World) => bit_any W i b (by omega) hbb)
  have HGOAL := Lib.hid (fun (z : Nat) (hz : z = (M % 2 ^ 64) ||| b) (W : World) (kw : Kept (fun _ => False) w W) => (show SetV W (.agg #[.int .u64 z, .slice a hs.length c]) (M ||| 2 ^ i) from ⟨_, hs, by rw [or_low_mod M i hi, hz, hbb, Nat.mod_eq_of_lt hi], hw.kept kw (fun _ _ h => h), by rw [or_low_div M i hi]; exact hc, hnil⟩))
  have hlo : M % 2 ^ 64 < 2 ^ 64 := Nat.mod_lt _ (by decide)
  have hbl : b < 2 ^ 64 := by rw [hbb]; exact Nat.pow_lt_pow_right (by omega) (Nat.mod_lt _ (by omega))
  clear hw hc hnil h hb hbb
  generalize hs.length = n at HH HGOAL ⊢
  generalize M % 2 ^ 64 = lo at HH HGOAL hlo ⊢
  obtain ⟨z, hz⟩ : ∃ z, z = lo ||| b := ⟨_, rfl⟩
  have hxo : bits .or .u64 (lo : Int) (b : Int) = (z : Int) := by rw [hz]; exact u64_or_nat _ _ (by omega) (by omega)
  have HZ := Lib.hid hz
  have hi' : (i : Int) < 64 := by omega
  have hi0 : (i : Int) ≤ 4095 := by omega
  clear hz hlo hbl
  have KA := Lib.hid ((Kept.alloc (fun _ => False) w (.cells #[.int .u64 lo, .slice a n c] 27)).then (Kept.alloc (fun _ => False) _ (.cells #[.int .u64 0, .slice none 0 0] 27)))
  go_enter Tryz.func6, Tryz.ntmps6
  go_wp2_with fail
  refine (possible_yes _ _ (by omega) (by omega)).mono ?_
  rintro e w1 ⟨rfl, rfl⟩
  go_wp2_with fail
  refine (HH.out _ KA.out).mono ?_
  rintro e w1 ⟨rfl, hk1⟩
  have fr := Fr.new hk1
  clear hk1
  have FR := Lib.hid fr
  obtain ⟨c0, c1, r0, r1, f0, f1, lt, _⟩ := fr
  go_wp2_with fail
  go_still_tail 8, (by kernel_rfl)
  still_call ((HB.out _).mono (fun _ _ h => ⟨h.1, h.2.symm⟩))
  repeat still_step
  refine wpStill_nil ?_
  change wpList _ _ _ _ _ w1.drew
  have FR2 := Lib.hid FR.out.drew
  clear c0 c1 r0 r1 f0 f1 lt FR
  generalize w1.drew = w2 at FR2 ⊢
  obtain ⟨c0, c1, r0, r1, f0, f1, lt, _⟩ := FR2.out
  go_wp2
  refine bodyPost_ret (v := .agg #[.int .u64 z, .slice a n c]) (by simp [results, Tryz.results6, go_sem, r0, r1]) rfl ⟨_, rfl, HGOAL.out z HZ.out _ (FR2.out.fin _ _), ?_, FR2.out.fin _ _⟩
  rintro k ⟨lo', hv', he, hb⟩
  cases he
  exact Or.inl ⟨_, _, rfl, hb⟩

theorem high_fin (w w3 : World) (g q m lo z N : Nat) (hmod : N % 2 ^ 64 = lo) (hcan : Canon (wl (N / 2 ^ 64) m) (N / 2 ^ 64)) (h1 : 1 ≤ m) (h2 : m ≤ 63) (lt3 : g < w3.heap.size) (lt1 : w.heap.size + 1 < g)
    (hk : Kept (fun _ => False) w w3) (ho : (w3.setCell ⟨g, q, none⟩ (.int .u64 (z : Int))).ownsRow g 24 1 (.slice (some ⟨g, 0, none⟩) m m) m (wv (wl (N / 2 ^ 64) m))) (W : World) (hK : Kept (fun k => k = w.heap.size + 1) (w3.setCell ⟨g, q, none⟩ (.int .u64 (z : Int))) W) :
    SetV W (.agg #[.int .u64 lo, .slice (some ⟨g, 0, none⟩) m m]) N ∧ (∀ k, setBlk (.agg #[.int .u64 lo, .slice (some ⟨g, 0, none⟩) m m]) k → w.heap.size ≤ k) ∧ Kept (fun _ => False) w W := by
  have hsz := (Kept.setCell (fun k => k = g) w3 ⟨g, q, none⟩ (.int .u64 (z : Int)) rfl).size
  refine ⟨⟨_, wl (N / 2 ^ 64) m, by rw [hmod], Or.inr ⟨g, 0, m, by rw [wl_length], by rw [wl_length]; exact Nat.le_refl _, by unfold maxLen; omega, ?_, ?_⟩, hcan, ?_⟩, ?_, ?_⟩
  · exact Nat.lt_of_lt_of_le (Nat.lt_of_lt_of_le lt3 hsz) hK.size
  · intro j hj
    have hj' := hj
    rw [wl_length] at hj'
    rw [Nat.zero_add, hK.cell (p := ⟨g, j, none⟩) (Nat.lt_of_lt_of_le lt3 hsz) (fun e => by have e : g = w.heap.size + 1 := e; omega), ho.cellAt j (by omega), wv_getD _ _ hj]
  · intro e
    have := congrArg List.length e
    rw [wl_length] at this
    simp at this
    omega
  · rintro k ⟨lo', hv', he, hb⟩
    cases he
    simp [Value.ownBlock] at hb
    omega
  · exact (hk.trans (Kept.setCell (fun k => k = g) w3 ⟨g, q, none⟩ (.int .u64 (z : Int)) rfl) (fun _ _ h => h) (fun i hi e => by omega)).trans hK (fun _ _ h => h) (fun i hi e => by omega)

set_option maxRecDepth 100000 in
set_option maxHeartbeats 1600000 in
theorem with_high (w : World) (v : Value) (M i : Nat) (h : SetV w v M) (hS : Small M) (h64 : 64 ≤ i) (hi : i ≤ 4095) (hb : M.testBit i = false) :
    Calls Tryz.prog 6 #[v, .int .i64 i] w fun e w' => ∃ v', e = .returned v' ∧ SetV w' v' (M ||| 2 ^ i) ∧ (∀ k, setBlk v' k → setBlk v k ∨ w.heap.size ≤ k) ∧ Kept (fun _ => False) w w' := by
  obtain ⟨i0, hin, hz0, hz1, hz2⟩ := info_parts info_u64
  obtain ⟨hv, hs, rfl, hw, hc, hnil⟩ := h.ex
  obtain ⟨a, c, rfl⟩ := hw.form
  have hsm := hc.small hS
  have HH := Lib.hid (fun (W : World) (kw : Kept (fun _ => False) w W) => has_any W _ M i ⟨_, _, rfl, hw.kept kw (fun _ _ h => h), hc, hnil⟩ (by omega))
  rw [hb] at HH
  obtain ⟨b, hbb⟩ : ∃ b, b = 2 ^ (i % 64) := ⟨_, rfl⟩
  have HB := Lib.hid (fun (W : World) => bit_any W i b (by omega) hbb)
  obtain ⟨q, hq⟩ : ∃ q, i / 64 = q + 1 := ⟨i / 64 - 1, by omega⟩
  obtain ⟨m, hm⟩ : ∃ m, m = max hs.length (q + 1) := ⟨_, rfl⟩
  have hbl : b < 2 ^ 64 := by rw [hbb]; exact Nat.pow_lt_pow_right (by omega) (Nat.mod_lt _ (by omega))
  obtain ⟨y, hy⟩ : ∃ y, y = (wl (M / 2 ^ 64) m).getD q 0 := ⟨_, rfl⟩
  have hyl : y < 2 ^ 64 := by rw [hy, wl_getD _ _ _ (by omega)]; exact Nat.mod_lt _ (by decide)
  obtain ⟨z, hz⟩ : ∃ z, z = y ||| b := ⟨_, rfl⟩
  have hxo : bits .or .u64 (y : Int) (b : Int) = (z : Int) := by rw [hz]; exact u64_or_nat _ _ (by omega) (by omega)
  have hfin : (wl (M / 2 ^ 64) m).set q z = wl ((M ||| 2 ^ i) / 2 ^ 64) m := by
    have := wl_or (M / 2 ^ 64) m (i - 64) (by omega)
    rw [show (i - 64) / 64 = q by omega, show (i - 64) % 64 = i % 64 by omega, ← hbb, ← hy, ← hz] at this
    rw [this, or_high_div M i h64]
  have hcan : Canon (wl ((M ||| 2 ^ i) / 2 ^ 64) m) ((M ||| 2 ^ i) / 2 ^ 64) := by
    rw [or_high_div M i h64]
    exact canon_with hs _ (i - 64) m hc (by rw [hm]; omega)
  have hmod := or_high_mod M i h64
  have hroom := wl_room hs _ m hc (by omega)
  have HFIN := Lib.hid hfin; have HCAN := Lib.hid hcan; have HMOD := Lib.hid hmod; have HROOM := Lib.hid hroom; have HY := Lib.hid hy
  have HW := Lib.hid hw; have HM := Lib.hid hm
  have hE : ((i : Int).tdiv 64 = (q : Int) + 1 ∧ (i : Int) / 64 = (q : Int) + 1) ∧ m ≤ 63 ∧ q < m ∧ hs.length ≤ m ∧ ((hs.length < q + 1 ∧ m = q + 1) ∨ (¬ hs.length < q + 1 ∧ m = hs.length)) := ⟨⟨by rw [Int.tdiv_eq_ediv_of_nonneg (by omega)]; omega, by omega⟩, by omega, by omega, by omega, by omega⟩
  have HE := Lib.hid hE; clear hE
  have hi1 : decide ((i : Int) < 64) = false := by simp; omega
  have hi2 : (64 : Int) ≤ i := by omega
  have hi0 : (i : Int) ≤ 4095 := by omega
  clear hw hc hnil h hb hbb hbl hm h64 hS hq hy hyl hz hfin hcan hmod hroom
  obtain ⟨n, hn⟩ : ∃ n, n = hs.length := ⟨_, rfl⟩
  obtain ⟨lo, hlo⟩ : ∃ lo, lo = M % 2 ^ 64 := ⟨_, rfl⟩
  rw [← hn] at HH HE HW HM hsm HROOM ⊢
  rw [← hlo] at HH HMOD ⊢
  have HN := Lib.hid hn; clear hn hlo
  have KA := Lib.hid ((Kept.alloc (fun _ => False) w (.cells #[.int .u64 lo, .slice a n c] 27)).then (Kept.alloc (fun _ => False) _ (.cells #[.int .u64 0, .slice none 0 0] 27)))
  obtain ⟨⟨e1, e2⟩, e4, e5, e6, hcs⟩ := HE.out
  obtain ⟨CS, hCS⟩ : ∃ CS, CS = wv hs := ⟨_, rfl⟩
  have csl : CS.length = n := by rw [hCS, wv_length, HN.out]
  have HCS := Lib.hid hCS; have HCL := Lib.hid csl; clear hCS csl
  obtain ⟨ZS, hZS⟩ : ∃ ZS, ZS = wv (List.replicate m 0) := ⟨_, rfl⟩
  have zsl : ZS.length = m := by rw [hZS, wv_length, List.length_replicate]
  have hspl : splice ZS 0 CS = wv (wl (M / 2 ^ 64) m) := by
    rw [← HROOM.out, hZS, splice, HCL.out, HCS.out]
    simp [wv]
  have HZS := Lib.hid hZS; have HZL := Lib.hid zsl; have HSPL := Lib.hid hspl; clear hZS zsl hspl
  rcases hcs with ⟨hnk, hmk⟩ | ⟨hnk, hmk⟩
  all_goals
    have HMK := Lib.hid hmk; clear hmk
    go_enter Tryz.func6, Tryz.ntmps6
    go_wp2_with fail
    refine (possible_yes _ _ (by omega) (by omega)).mono ?_
    rintro e w1 ⟨rfl, rfl⟩
    go_wp2_with fail
    refine (HH.out _ KA.out).mono ?_
    rintro e w1 ⟨rfl, hk1⟩
    have fr := Fr.new hk1
    clear hk1
    have FR := Lib.hid fr
    obtain ⟨c0, c1, r0, r1, f0, f1, lt, _⟩ := fr
    go_wp2_with (refine wpList_make_full _ rfl _ _ _ rfl w1.heap.size 24 i0 _ 1 Tryz.underlying25 hin hz0 hz1 _ _ _ _ m rfl rfl (by have := HMK.out; omega) (by have := HMK.out; omega) (by rw [hz2]; omega) (by unfold maxLen; omega) (by simp) ?_)
    intro w2 hown2 hgrow2
    rw [wv_zero, ← HZS.out] at hown2
    have hb2 : Below w1.heap.size w1 w2 := (Below.refl _ w1).grown hgrow2 (Nat.le_refl _) (fun k e => by cases e)
    have fr2 := FR.out.keptS (Kept.ofBelow (fun _ => False) hb2) (fun _ _ h => h)
    have hg2 : w2.heap[w1.heap.size]? = some (.cells ZS.toArray 24 (0, 0)) := by
      obtain ⟨_, hh⟩ := hown2
      rcases hh with ⟨h, _⟩ | ⟨g', cap', cur, h, _, hg', _, _, hsz, htk⟩
      · cases h
      · cases h
        rw [hg']
        congr 2
        rw [← htk, List.take_of_length_le (by simp [hsz])]
    have hpos : 0 < CS.length → (some (⟨w1.heap.size, 0, none⟩ : Addr) = some ⟨w1.heap.size, 0, none⟩) ∧ ∃ ad, a = some ad ∧ ∀ j v, CS[j]? = some v → w2.cell? (ad.add j) = some v := by
      intro h0
      refine ⟨rfl, ?_⟩
      have hlen := HCL.out
      rcases HW.out with ⟨h1, h2⟩ | ⟨g, off, cap, h1, h2, h3, h4, h5⟩
      · have := HN.out; rw [h2] at this; simp at this; omega
      · cases h1
        refine ⟨_, rfl, fun j v hj => ?_⟩
        have hjl : j < hs.length := by
          have := (List.getElem?_eq_some_iff.1 hj).1
          rw [← HN.out]; omega
        rw [HCS.out, wv_getD _ _ hjl] at hj
        have hadd : (⟨g, off, none⟩ : Addr).add j = ⟨g, off + j, none⟩ := by unfold Addr.add; split <;> simp_all
        rw [hadd, fr2.kept.cell (p := ⟨g, off + j, none⟩) h4 (fun h => h), h5 j hjl]
        exact hj
    have h1c : ∀ v ∈ CS, v.oneCell' = true := by
      intro v hv
      rw [HCS.out] at hv
      simp only [wv, List.mem_map] at hv
      obtain ⟨x, _, rfl⟩ := hv
      rfl
    have HPOS := Lib.hid hpos; have H1C := Lib.hid h1c; have HB2 := Lib.hid hb2; have HG2 := Lib.hid hg2; have HL1 := Lib.hid lt
    clear hpos h1c hb2 hg2 hown2 hgrow2 c0 c1 r0 r1 f0 f1 lt
    obtain ⟨c0, c1, r0, r1, f0, f1, lt, _⟩ := fr2
    have hmin : CS.length = Nat.min n m := HCL.out.trans (Nat.min_eq_left e6).symm
    have HMIN := Lib.hid hmin; clear hmin
    go_wp2_with (refine wpList_copy_splice (o := ⟨some 35, _, _, _, _, _⟩) rfl (.tmp 32) (.tmp 34) 25 25 rfl 24 rfl rfl (some ⟨w1.heap.size, 0, none⟩) a m m n c rfl rfl w1.heap.size 0 ZS 24 HG2.out CS HMIN.out HPOS.out (by rw [HCL.out, HZL.out]; omega) H1C.out w1.heap.size w1 HB2.out (Nat.le_refl _) ?_)
    intro w3 hg3 hb3
    have fr3 := FR.out.keptS (Kept.ofBelow (fun _ => False) hb3) (fun _ _ h => h)
    have lt3 : w1.heap.size < w3.heap.size := (Array.getElem?_eq_some_iff.1 hg3.out).1
    have own3 : w3.ownsRow w1.heap.size 24 1 (.slice (some ⟨w1.heap.size, 0, none⟩) m m) m (wv (wl (M / 2 ^ 64) m)) := by
      refine ⟨by rw [wv_length, wl_length, Nat.mul_one], Or.inr ⟨_, m, _, rfl, Nat.le_refl _, hg3.out, Nat.le_refl _, by unfold maxLen; omega, ?_, ?_⟩⟩
      · rw [HSPL.out]; simp [wv, wl_length]
      · change List.take (m * 1) (splice ZS 0 CS) = _
        rw [HSPL.out, List.take_of_length_le (by rw [wv_length, wl_length]; omega)]
    have lt1 := HL1.out
    have hst := own3.stored q (.int .u64 (z : Int))
    rw [wv_set, HFIN.out] at hst
    have HGOAL := Lib.hid (high_fin w w3 w1.heap.size q m lo z (M ||| 2 ^ i) HMOD.out HCAN.out (by omega) e4 lt3 lt1 fr3.kept hst.1)
    have cq : w3.cell? ⟨w1.heap.size, q, none⟩ = some (.int .u64 y) := by
      rw [own3.cellAt q (by omega), wv_getD _ _ (by rw [wl_length]; exact e5), ← HY.out]
    have fq : w3.frozen? ⟨w1.heap.size, q, none⟩ = false := own3.frozenAt q
    clear HPOS H1C HB2 HG2 HL1 HMIN hg3 hb3 FR own3 hst HFIN HMOD HCAN HROOM HW HY HCS HCL HZS HZL HSPL c0 c1 r0 r1 f0 f1 lt lt3
    generalize w1.heap.size = g at *
    have ne0 : ¬ w.heap.size = g := by omega
    have ne1 : ¬ w.heap.size + 1 = g := by omega
    have ne2 : ¬ g = w.heap.size := by omega
    have ne3 : ¬ g = w.heap.size + 1 := by omega
    have q0 : (0 : Int) ≤ q := by omega
    have q1 : (q : Int) < (m : Int) := by omega
    have FR3 := Lib.hid fr3
    obtain ⟨c0, c1, r0, r1, f0, f1, lt, _⟩ := fr3
    obtain ⟨hw1, hw2⟩ : IntKind.i64.wrap (q : Int) = (q : Int) ∧ IntKind.i64.wrap ((q : Int) + 1) = (q : Int) + 1 := ⟨IntWalk.i64_in _ (by omega), IntWalk.i64_in _ (by omega)⟩
    go_wp2_with fail
    go_region_law ((go_simp; go_at_call 21; refine (HB.out _).mono ?_; rintro e w' ⟨rfl, rfl⟩))
    all_goals
      have fr4 := FR3.out.keptS ((Kept.setCell (fun k => k = g) w3 ⟨g, q, none⟩ (.int .u64 (z : Int)) rfl).drew) (fun k hk e => by omega)
      have HG4 := Lib.hid (fun (W : World) (hk : Kept (fun k => k = w.heap.size + 1) ((w3.setCell ⟨g, q, none⟩ (.int .u64 (z : Int))).drew) W) => HGOAL.out W ((Kept.refl (fun k => k = w.heap.size + 1) (w3.setCell ⟨g, q, none⟩ (.int .u64 (z : Int)))).drew.trans hk (fun _ _ h => h) (fun _ _ h => h)))
      clear c0 c1 r0 r1 f0 f1 lt cq fq FR3 HGOAL
      generalize (w3.setCell ⟨g, q, none⟩ (.int .u64 (z : Int))).drew = w4 at fr4 HG4 ⊢
      have HF4 := Lib.hid (HG4.out _ ((Kept.setCell (fun k => k = w.heap.size + 1) w4 ⟨w.heap.size + 1, 0, none⟩ (.int .u64 lo) rfl).trans (Kept.setCell (fun k => k = w.heap.size + 1) _ ⟨w.heap.size + 1, 1, none⟩ (.slice (some ⟨g, 0, none⟩) m m) rfl) (fun _ _ h => h) (fun _ _ h => h)))
      obtain ⟨c0, c1, r0, r1, f0, f1, lt, _⟩ := fr4
      go_wp2
      refine bodyPost_ret (v := .agg #[.int .u64 lo, .slice (some ⟨g, 0, none⟩) m m]) (by simp [results, Tryz.results6, go_sem, r0, r1]) rfl ⟨_, rfl, HF4.out.1, fun k hk => Or.inr (HF4.out.2.1 k hk), HF4.out.2.2⟩

/-- With, of any member. -/
theorem with_any (w : World) (v : Value) (M i : Nat) (h : SetV w v M) (hS : Small M) (hi : i ≤ 4095) :
    Calls Tryz.prog 6 #[v, .int .i64 i] w fun e w' => ∃ v', e = .returned v' ∧ SetV w' v' (M ||| 2 ^ i) ∧ (∀ k, setBlk v' k → setBlk v k ∨ w.heap.size ≤ k) ∧ Kept (fun _ => False) w w' := by
  cases hb : M.testBit i with
  | true =>
    refine (with_same w v M i h hi hb).mono ?_
    rintro e w' ⟨rfl, hk⟩
    obtain ⟨hv, hs, e1, hw, hc, hnil⟩ := h.ex
    exact ⟨v, rfl, ⟨⟨hv, hs, by rw [or_same M i hb]; exact e1, hw.kept hk (fun _ _ h => h), by rw [or_same M i hb]; exact hc, hnil⟩⟩, fun k hk => Or.inl hk, hk⟩
  | false =>
    by_cases h64 : i < 64
    · exact with_low w v M i h h64 hb
    · exact with_high w v M i h hS (by omega) hi hb

theorem small_with {M i : Nat} (h : Small M) (hi : i ≤ 4095) : Small (M ||| 2 ^ i) :=
  fun e he => Nat.or_lt_two_pow (h e he) (Nat.pow_lt_pow_right (by omega) (by omega))

end Go.Proofs.YtoekdcobnmkpaaaGreatDoor
/-
  bits.Of of no members, and of any list; members of bytes are small.
-/
namespace Go.Proofs.YtoekdcobnmkpaaaGreatDoor
open Go.RowKit

theorem setv_none (w : World) : SetV w (.agg #[.int .u64 0, .slice none 0 0]) 0 := ⟨⟨_, [], rfl, Or.inl ⟨rfl, rfl⟩, ⟨rfl, by simp, Or.inl rfl⟩, fun _ => rfl⟩⟩

set_option maxRecDepth 100000 in
set_option maxHeartbeats 1600000 in
theorem of_nil (w : World) :
    Calls Tryz.prog 5 #[.slice none 0 0] w fun e w' => e = .returned (.agg #[.int .u64 0, .slice none 0 0]) ∧ Kept (fun _ => False) w w' := by
  obtain ⟨i0, hi, hz0, hz1, hz2⟩ := info_parts info_u64
  go_enter Tryz.func5, Tryz.ntmps5
  go_wp2_with fail
  refine (greatestOf_any _ _ [] (Or.inl ⟨rfl, rfl⟩)).mono ?_
  rintro e w' ⟨rfl, rfl⟩
  rw [show gOf [] = -1 from rfl]
  go_wp2_with fail
  refine (wordsFor_any _ _ (by omega) (by omega)).mono ?_
  rintro e w' ⟨rfl, rfl⟩
  rw [show ((-1 : Int) + 64) / 64 = ((0 : Nat) : Int) by omega]
  go_wp2_with (refine wpList_make_full _ rfl _ _ _ rfl w.heap.size 24 i0 _ 1 Tryz.underlying25 hi hz0 hz1 _ _ _ _ 0 rfl rfl rfl rfl (by omega) (by unfold maxLen; omega) (by simp) ?_)
  intro wA hownA hgrowA
  have hkA : Kept (fun _ => False) w wA := (Kept.alloc (fun _ => False) w _).trans (Kept.ofGrown (S := fun _ => False) hgrowA (fun k e => by cases e)) (fun _ _ h => h) (fun _ _ h => h)
  have r0 : wA.cell? ⟨w.heap.size, 0, none⟩ = some (.int .u64 0) := (hgrowA.cell_far ⟨w.heap.size, 0, none⟩ (by simp) (by simp)).trans (by go_simp)
  have r1 : wA.cell? ⟨w.heap.size, 1, none⟩ = some (.slice none 0 0) := (hgrowA.cell_far ⟨w.heap.size, 1, none⟩ (by simp) (by simp)).trans (by go_simp)
  have rf : ∀ i, wA.frozen? ⟨w.heap.size, i, none⟩ = false := fun i => (hgrowA.frozen_far ⟨w.heap.size, i, none⟩ (by simp) (by simp)).trans (by go_simp)
  have hAs : w.heap.size < wA.heap.size := Nat.lt_of_lt_of_le (by simp) hgrowA.size
  have RF := Lib.hid rf; clear rf
  have R0 := Lib.hid r0; clear r0
  have R1 := Lib.hid r1; clear r1
  clear hownA hgrowA
  go_wp2_with fail
  go_loopw [12] (fun iv wr => iv = .int .i64 0 ∧ wr = wA) (fun _ _ => 0)
  case atStart => exact ⟨rfl, rfl⟩
  case round =>
    obtain ⟨rfl, rfl⟩ := hrel
    go_wp2_with fail
    refine (pack_nil wr _ 0).mono ?_
    rintro e w1 ⟨rfl, hk1⟩
    have c0 := (hk1.cell (p := ⟨w.heap.size, 0, none⟩) (by simp; omega) (by simp)).trans R0.out
    have c1 := (hk1.cell (p := ⟨w.heap.size, 1, none⟩) (by simp; omega) (by simp)).trans R1.out
    have f0 := (hk1.frozen (p := ⟨w.heap.size, 0, none⟩) (by simp; omega) (by simp)).trans (RF.out 0)
    have f1 := (hk1.frozen (p := ⟨w.heap.size, 1, none⟩) (by simp; omega) (by simp)).trans (RF.out 1)
    have hkw := hkA
    go_wp2
    refine bodyPost_ret (v := .agg #[.int .u64 0, .slice none 0 0]) (by simp [results, Tryz.results5, go_sem, c0, c1]) rfl ⟨rfl, ?_⟩
    exact (hkw.trans hk1 (fun _ _ h => h) (fun _ _ h => h)).trans ((Kept.setCell (fun k => k = w.heap.size) _ ⟨w.heap.size, 0, none⟩ _ rfl).trans (Kept.setCell (fun k => k = w.heap.size) _ ⟨w.heap.size, 1, none⟩ _ rfl) (fun _ _ h => h) (fun _ _ h => h)) (fun _ _ h => h) (fun i hi e => by omega)

/-- 'bits.Of' of any list. -/
theorem of_any (w : World) (v : Value) (xs : List Int) (h : Ints w v xs) :
    Calls Tryz.prog 5 #[v] w fun e w' => ∃ v, e = .returned v ∧ SetV w' v (maskOf xs) ∧ (∀ k, setBlk v k → w.heap.size ≤ k) ∧ Kept (fun _ => False) w w' := by
  rcases h with ⟨rfl, rfl⟩ | ⟨g, off, cap, rfl, h1, h2, h3, h4⟩
  · refine (of_nil w).mono ?_
    rintro e w' ⟨rfl, hk⟩
    refine ⟨_, rfl, setv_none w', ?_, hk⟩
    rintro k ⟨lo, hv, he, hb⟩
    cases he
    simp [Value.ownBlock] at hb
  · exact of_at w g off cap xs h1 h2 h3 h4

end Go.Proofs.YtoekdcobnmkpaaaGreatDoor
/-
  Plain words on union, intersection and difference of sets that are numbers, word by word. No program is named here.
-/
namespace Go.Proofs.YtoekdcobnmkpaaaGreatDoor

/-- What a has and b has not. -/
def anN (a b : Nat) : Nat := a ^^^ (a &&& b)
theorem anN_bit (a b i : Nat) : (anN a b).testBit i = (a.testBit i && !b.testBit i) := by
  unfold anN
  rw [Nat.testBit_xor, Nat.testBit_and]
  cases a.testBit i <;> cases b.testBit i <;> rfl
theorem anN_zero (a : Nat) : anN a 0 = a := by simp [anN]
theorem anN_le (a b : Nat) : anN a b ≤ a := by
  refine Nat.le_of_testBit ?_
  intro i h
  rw [anN_bit] at h
  simp at h
  exact h.1
theorem u64_anN (a b : Nat) (ha : a < 18446744073709551616) (hb : b < 18446744073709551616) : bits .andNot .u64 (a : Int) (b : Int) = ((anN a b : Nat) : Int) := by
  rw [u64_andNot_nat a b ha hb]
  congr 1
  refine Nat.eq_of_testBit_eq fun i => ?_
  rw [anN_bit, Nat.testBit_and, show (18446744073709551615 - b : Nat) = 2 ^ 64 - (b + 1) by omega, Nat.testBit_two_pow_sub_succ (by omega)]
  by_cases hi : i < 64
  · simp [hi]
  · have : a.testBit i = false := Nat.testBit_lt_two_pow (Nat.lt_of_lt_of_le ha (by rw [show (18446744073709551616 : Nat) = 2 ^ 64 from rfl]; exact Nat.pow_le_pow_right (by omega) (by omega)))
    simp [this]

def wordN (M k : Nat) : Nat := M / 2 ^ (64 * k) % 2 ^ 64
theorem wordN_lt (M k : Nat) : wordN M k < 18446744073709551616 := Nat.mod_lt _ (by decide)
theorem wordN_bit (M k i : Nat) : (wordN M k).testBit i = (decide (i < 64) && M.testBit (i + 64 * k)) := by
  unfold wordN
  rw [Nat.testBit_mod_two_pow, Nat.testBit_div_two_pow]
theorem wordN_an (M K k : Nat) : wordN (anN M K) k = anN (wordN M k) (wordN K k) := by
  refine Nat.eq_of_testBit_eq fun i => ?_
  simp only [wordN_bit, anN_bit]
  cases decide (i < 64) <;> simp
theorem wordN_and (M K k : Nat) : wordN (M &&& K) k = wordN M k &&& wordN K k := by
  refine Nat.eq_of_testBit_eq fun i => ?_
  simp only [wordN_bit, Nat.testBit_and]
  cases decide (i < 64) <;> simp
theorem wordN_or (M K k : Nat) : wordN (M ||| K) k = wordN M k ||| wordN K k := by
  refine Nat.eq_of_testBit_eq fun i => ?_
  simp only [wordN_bit, Nat.testBit_or]
  cases decide (i < 64) <;> simp
theorem mod_an (M K : Nat) : anN M K % 2 ^ 64 = anN (M % 2 ^ 64) (K % 2 ^ 64) := by
  have := wordN_an M K 0
  simpa [wordN] using this
theorem mod_and (M K : Nat) : (M &&& K) % 2 ^ 64 = (M % 2 ^ 64) &&& (K % 2 ^ 64) := by
  have := wordN_and M K 0
  simpa [wordN] using this
theorem mod_or (M K : Nat) : (M ||| K) % 2 ^ 64 = (M % 2 ^ 64) ||| (K % 2 ^ 64) := by
  have := wordN_or M K 0
  simpa [wordN] using this
theorem div_an (M K n : Nat) : anN M K / 2 ^ n = anN (M / 2 ^ n) (K / 2 ^ n) := by
  refine Nat.eq_of_testBit_eq fun i => ?_
  simp only [anN_bit, Nat.testBit_div_two_pow]
theorem div_and (M K n : Nat) : (M &&& K) / 2 ^ n = (M / 2 ^ n) &&& (K / 2 ^ n) := by
  refine Nat.eq_of_testBit_eq fun i => ?_
  simp only [Nat.testBit_and, Nat.testBit_div_two_pow]
theorem div_or (M K n : Nat) : (M ||| K) / 2 ^ n = (M / 2 ^ n) ||| (K / 2 ^ n) := by
  refine Nat.eq_of_testBit_eq fun i => ?_
  simp only [Nat.testBit_or, Nat.testBit_div_two_pow]

/-- Words of which those below k are done. -/
def mixG (g h : Nat → Nat) (n k : Nat) : List Nat := (List.range n).map fun j => if j < k then g j else h j
theorem mixG_length (g h : Nat → Nat) (n k : Nat) : (mixG g h n k).length = n := by simp [mixG]
theorem mixG_getD (g h : Nat → Nat) (n k : Nat) (hk : k < n) : (mixG g h n k).getD k 0 = h k := by
  simp [mixG, List.getD, hk]
theorem mixG_set (g h : Nat → Nat) (n k : Nat) (_hk : k < n) : (mixG g h n k).set k (g k) = mixG g h n (k + 1) := by
  refine List.ext_getElem (by simp [mixG]) fun i h1 h2 => ?_
  rw [List.getElem_set]
  simp only [mixG, List.getElem_map, List.getElem_range]
  by_cases hi : k = i
  · subst hi; simp
  · rw [if_neg hi]
    by_cases h3 : i < k
    · rw [if_pos h3, if_pos (by omega)]
    · rw [if_neg h3, if_neg (by omega)]
theorem mixG_zero (g h : Nat → Nat) (n : Nat) : mixG g h n 0 = (List.range n).map h := by simp [mixG]
theorem mixG_end (g h : Nat → Nat) (n k : Nat) (hk : ∀ j, k ≤ j → j < n → g j = h j) : mixG g h n k = (List.range n).map g := by
  refine List.ext_getElem (by simp [mixG]) fun i h1 h2 => ?_
  simp only [mixG, List.getElem_map, List.getElem_range]
  have hi : i < n := by simpa using h2
  split
  · rfl
  · exact (hk i (by omega) hi).symm
theorem wl_word (M n : Nat) : wl M n = (List.range n).map (wordN M) := rfl

/-- A word behind the last one is 0. -/
theorem canon_word {hs : List Nat} {M : Nat} (h : Canon hs M) (j : Nat) (hj : hs.length ≤ j) : wordN M j = 0 := by
  have : M < 2 ^ (64 * j) := Nat.lt_of_lt_of_le h.lt (Nat.pow_le_pow_right (by omega) (by omega))
  simp [wordN, Nat.div_eq_of_lt this]
theorem canon_getD {hs : List Nat} {M : Nat} (h : Canon hs M) (j : Nat) (hj : j < hs.length) : hs.getD j 0 = wordN M j := by
  rw [h.eq, wl_getD _ _ _ hj]; rfl
theorem canon_or {hs ks : List Nat} {M K : Nat} (h : Canon hs M) (k : Canon ks K) (hl : ks.length ≤ hs.length) : Canon (wl (M ||| K) hs.length) (M ||| K) := by
  refine ⟨by rw [wl_length], ?_, ?_⟩
  · rw [wl_length]
    exact Nat.or_lt_two_pow h.lt (Nat.lt_of_lt_of_le k.lt (Nat.pow_le_pow_right (by omega) (by omega)))
  · rw [wl_length]
    rcases h.last with e | e
    · exact Or.inl e
    · refine Or.inr fun e2 => e ?_
      rw [div_or] at e2
      exact Nat.le_antisymm (e2 ▸ Nat.left_le_or) (Nat.zero_le _)
theorem small_or {M K : Nat} (h : Small M) (k : Small K) : Small (M ||| K) := fun e he => Nat.or_lt_two_pow (h e he) (k e he)
theorem small_and {M K : Nat} (h : Small M) : Small (M &&& K) := fun e he => Nat.lt_of_le_of_lt Nat.and_le_left (h e he)
theorem small_an {M K : Nat} (h : Small M) : Small (anN M K) := fun e he => Nat.lt_of_le_of_lt (anN_le _ _) (h e he)

theorem ones_full (n k : Nat) (h : 64 * (k + 1) ≤ n) : wordN (2 ^ n - 1) k = 18446744073709551615 := by
  refine Nat.eq_of_testBit_eq fun i => ?_
  rw [wordN_bit, Nat.testBit_two_pow_sub_one, show (18446744073709551615 : Nat) = 2 ^ 64 - 1 from rfl, Nat.testBit_two_pow_sub_one]
  by_cases hi : i < 64
  · have : i + 64 * k < n := by omega
    simp [hi, this]
  · simp [hi]
theorem ones_part (n k : Nat) (h1 : 64 * k ≤ n) (h2 : n < 64 * (k + 1)) : wordN (2 ^ n - 1) k = 2 ^ (n - 64 * k) - 1 := by
  refine Nat.eq_of_testBit_eq fun i => ?_
  rw [wordN_bit, Nat.testBit_two_pow_sub_one, Nat.testBit_two_pow_sub_one]
  by_cases hi : i < 64
  · have : (i + 64 * k < n) ↔ (i < n - 64 * k) := by omega
    simp [hi, this]
  · have : ¬ i < n - 64 * k := by omega
    simp [hi, this]
def clampN (n : Int) : Nat := if n < 0 then 0 else if n ≤ 4096 then n.toNat else 4096
theorem clampN_le (n : Int) : clampN n ≤ 4096 := by
  unfold clampN
  split
  · omega
  · split <;> omega
theorem ones_small (n : Nat) (h : n ≤ 4096) : Small (2 ^ n - 1) := fun e he => Nat.lt_of_lt_of_le (Nat.sub_lt (Nat.pow_pos (by omega)) (by omega)) (Nat.pow_le_pow_right (by omega) (by omega))
end Go.Proofs.YtoekdcobnmkpaaaGreatDoor
/-
  Plain words on ascending lists and the sets that they stand for: a further number, a list's set, differences, comparison. No program is named here.
-/
namespace Go.Proofs.YtoekdcobnmkpaaaGreatDoor

theorem sorted_ext : ∀ l m : List Int, l.Pairwise (· < ·) → m.Pairwise (· < ·) → (∀ x, x ∈ l ↔ x ∈ m) → l = m
  | [], [], _, _, _ => rfl
  | [], y :: m, _, _, h => by have := (h y).2 List.mem_cons_self; cases this
  | x :: l, [], _, _, h => by have := (h x).1 List.mem_cons_self; cases this
  | x :: l, y :: m, hl, hm, h => by
    rw [List.pairwise_cons] at hl hm
    have hxy : x = y := by
      have h1 := (h x).1 List.mem_cons_self
      have h2 := (h y).2 List.mem_cons_self
      rcases List.mem_cons.1 h1 with e | e
      · exact e
      · rcases List.mem_cons.1 h2 with e2 | e2
        · exact e2.symm
        · have := hm.1 x e; have := hl.1 y e2; omega
    subst hxy
    congr 1
    refine sorted_ext l m hl.2 hm.2 fun z => ⟨fun hz => ?_, fun hz => ?_⟩
    · rcases List.mem_cons.1 ((h z).1 (List.mem_cons_of_mem _ hz)) with e | e
      · have := hl.1 z hz; omega
      · exact e
    · rcases List.mem_cons.1 ((h z).2 (List.mem_cons_of_mem _ hz)) with e | e
      · have := hm.1 z hz; omega
      · exact e

theorem memM_sorted (M n : Nat) : (memM M n).Pairwise (· < ·) := by
  unfold memM
  rw [List.pairwise_map]
  refine List.Pairwise.imp ?_ (List.Pairwise.filter _ List.pairwise_lt_range)
  intro a b h
  omega
theorem memM_mem {M n : Nat} {x : Int} : x ∈ memM M n ↔ 0 ≤ x ∧ x < n ∧ M.testBit x.toNat = true := by
  simp only [memM, List.mem_map, List.mem_filter, List.mem_range]
  constructor
  · rintro ⟨i, ⟨h1, h2⟩, rfl⟩
    exact ⟨by omega, by omega, by simpa using h2⟩
  · rintro ⟨h1, h2, h3⟩
    exact ⟨x.toNat, ⟨by omega, h3⟩, by omega⟩
theorem memM_is {M : Nat} {l : List Int} (h : l.Pairwise (· < ·)) (hm : ∀ x, x ∈ l ↔ 0 ≤ x ∧ x < 4096 ∧ M.testBit x.toNat = true) : l = memM M 4096 :=
  sorted_ext _ _ h (memM_sorted _ _) fun x => by rw [hm, memM_mem]; rfl
theorem memM_inj {M K : Nat} (hM : Small M) (hK : Small K) (h : memM M 4096 = memM K 4096) : M = K := by
  refine Nat.eq_of_testBit_eq fun i => ?_
  rcases Nat.lt_or_ge i 4096 with h1 | h1
  · have e : ∀ X, X.testBit i = decide ((i : Int) ∈ memM X 4096) := fun X => by
      by_cases hx : X.testBit i = true
      · rw [hx]; symm; rw [decide_eq_true_iff, memM_mem]; exact ⟨by omega, by omega, by simpa using hx⟩
      · have : ¬ (i : Int) ∈ memM X 4096 := fun hh => hx (by have := (memM_mem.1 hh).2.2; simpa using this)
        simp [this]; simpa using hx
    rw [e M, e K, h]
  · rw [Nat.testBit_lt_two_pow (hM i h1), Nat.testBit_lt_two_pow (hK i h1)]
theorem memM_zero (n : Nat) : memM 0 n = [] := by simp [memM]

/-- One element of the list is taken over, with the further number ahead of it if it is due. -/
def insS (i : Int) (st : List Int × Bool) (x : Int) : List Int × Bool := if i < x ∧ st.2 = false then (st.1 ++ [i] ++ [x], true) else (st.1 ++ [x], st.2)
def insL (i : Int) (l : List Int) : List Int × Bool := l.foldl (insS i) ([], false)
def withL (l : List Int) (i : Int) : List Int := if i < 0 ∨ 4095 < i ∨ i ∈ l then l else if (insL i l).2 then (insL i l).1 else (insL i l).1 ++ [i]

theorem insL_take (i : Int) (l : List Int) (k : Nat) (h : k < l.length) : insL i (l.take (k + 1)) = insS i (insL i (l.take k)) (l.getD k 0) := by
  rw [List.take_succ_eq_append_getElem h, insL, List.foldl_append]
  simp [insL, List.getD, h]
theorem insS_len (i : Int) (st : List Int × Bool) (x : Int) : (insS i st x).1.length ≤ st.1.length + 2 := by
  unfold insS; split <;> simp
theorem insL_len (i : Int) (l : List Int) : (insL i l).1.length + (!(insL i l).2).toNat = l.length + 1 := by
  have key : ∀ (l : List Int) (st : List Int × Bool), (l.foldl (insS i) st).1.length + (!(l.foldl (insS i) st).2).toNat = st.1.length + l.length + (!st.2).toNat := by
    intro l
    induction l with
    | nil => intro st; simp
    | cons x t ih =>
      intro st
      rw [List.foldl_cons, ih]
      unfold insS
      rcases st with ⟨a, b⟩
      cases b
      · by_cases h : i < x <;> simp [h] <;> omega
      · simp; omega
  have := key l ([], false)
  simp only [List.length_nil, Nat.zero_add, Bool.not_false, Bool.toNat_true] at this
  exact this
theorem ins_done (i : Int) : ∀ (l acc : List Int), l.foldl (insS i) (acc, true) = (acc ++ l, true)
  | [], acc => by simp
  | x :: t, acc => by
    rw [List.foldl_cons]
    have : insS i (acc, true) x = (acc ++ [x], true) := by simp [insS]
    rw [this, ins_done i t]
    simp
theorem ins_due (i : Int) : ∀ (l acc : List Int), l.Pairwise (· < ·) → i ∉ l →
    (if (l.foldl (insS i) (acc, false)).2 then (l.foldl (insS i) (acc, false)).1 else (l.foldl (insS i) (acc, false)).1 ++ [i]) = acc ++ l.filter (fun x => decide (x < i)) ++ i :: l.filter (fun x => decide (i < x))
  | [], acc, _, _ => by simp
  | x :: t, acc, hp, hi => by
    rw [List.pairwise_cons] at hp
    rw [List.foldl_cons]
    by_cases h : i < x
    · have e : insS i (acc, false) x = (acc ++ [i] ++ [x], true) := by simp [insS, h]
      have e1 : t.filter (fun x => decide (x < i)) = [] := List.filter_eq_nil_iff.2 fun y hy => by have := hp.1 y hy; simp; omega
      have e2 : t.filter (fun x => decide (i < x)) = t := List.filter_eq_self.2 fun y hy => by have := hp.1 y hy; simp; omega
      rw [e, ins_done]
      simp [h, e1, e2, show ¬ x < i by omega]
    · have hx : x < i := by
        have : i ≠ x := fun e => hi (by simp [e])
        omega
      have e : insS i (acc, false) x = (acc ++ [x], false) := by simp [insS, h]
      rw [e, ins_due i t (acc ++ [x]) hp.2 (fun hh => hi (List.mem_cons_of_mem _ hh))]
      simp [h, hx]

/-- The number behind the numbers below it and ahead of those above it: an ascending list. -/
theorem mid_sorted (i : Int) (l : List Int) (hp : l.Pairwise (· < ·)) : (l.filter (fun x => decide (x < i)) ++ i :: l.filter (fun x => decide (i < x))).Pairwise (· < ·) := by
  rw [List.pairwise_append]
  refine ⟨hp.filter _, ?_, ?_⟩
  · rw [List.pairwise_cons]
    exact ⟨fun y hy => by have := (List.mem_filter.1 hy).2; simpa using this, hp.filter _⟩
  · intro a ha b hb
    have h1 : a < i := by have := (List.mem_filter.1 ha).2; simpa using this
    rcases List.mem_cons.1 hb with rfl | hb
    · exact h1
    · have h2 : i < b := by have := (List.mem_filter.1 hb).2; simpa using this
      omega

theorem or_bit (M i j : Nat) : (M ||| 2 ^ i).testBit j = (M.testBit j || decide (i = j)) := by
  rw [Nat.testBit_or, Nat.testBit_two_pow]

theorem withL_mem (M : Nat) (i : Int) : withL (memM M 4096) i = memM (addM M i) 4096 := by
  unfold withL addM
  by_cases hr : 0 ≤ i ∧ i ≤ 4095
  · rw [if_pos hr]
    by_cases hm : i ∈ memM M 4096
    · rw [if_pos (Or.inr (Or.inr hm))]
      have hb := (memM_mem.1 hm).2.2
      congr 1
      refine Nat.eq_of_testBit_eq fun j => ?_
      rw [or_bit]
      by_cases e : i.toNat = j
      · rw [← e, hb]; simp
      · simp [e]
    · rw [if_neg (fun h => h.elim (fun h => by omega) fun h => h.elim (fun h => by omega) hm)]
      unfold insL
      rw [ins_due i _ [] (memM_sorted M 4096) hm, List.nil_append]
      refine memM_is (mid_sorted i _ (memM_sorted M 4096)) fun x => ?_
      rw [List.mem_append, List.mem_cons, List.mem_filter, List.mem_filter, memM_mem, or_bit]
      simp only [decide_eq_true_eq, Bool.or_eq_true]
      constructor
      · rintro (⟨⟨a, b, c⟩, d⟩ | rfl | ⟨⟨a, b, c⟩, d⟩)
        · exact ⟨a, by omega, Or.inl c⟩
        · exact ⟨hr.1, by omega, Or.inr rfl⟩
        · exact ⟨a, by omega, Or.inl c⟩
      · rintro ⟨a, b, c | c⟩
        · have hne : x ≠ i := fun e => hm (by rw [← e]; exact memM_mem.2 ⟨a, by omega, c⟩)
          rcases Int.lt_or_gt_of_ne hne with h | h
          · exact Or.inl ⟨⟨a, by omega, c⟩, h⟩
          · exact Or.inr (Or.inr ⟨⟨a, by omega, c⟩, h⟩)
        · exact Or.inr (Or.inl (by omega))
  · rw [if_neg hr, if_pos (by omega)]

/-- The list of a list's set. -/
def ofL (l : List Int) : List Int := l.foldl withL []
theorem ofL_mask (l : List Int) : ofL l = memM (maskOf l) 4096 := by
  have key : ∀ (l : List Int) (M : Nat), l.foldl withL (memM M 4096) = memM (l.foldl addM M) 4096 := by
    intro l
    induction l with
    | nil => intro M; simp only [List.foldl_nil]
    | cons x t ih => intro M; simp only [List.foldl_cons]; rw [withL_mem, ih]
  have := key l 0
  rw [memM_zero] at this
  exact this
theorem ofL_take (l : List Int) (k : Nat) (h : k < l.length) : ofL (l.take (k + 1)) = withL (ofL (l.take k)) (l.getD k 0) := by
  rw [List.take_succ_eq_append_getElem h, ofL, List.foldl_append]
  simp [ofL, List.getD, h]
theorem withL_len (l : List Int) (i : Int) : (withL l i).length ≤ l.length + 1 := by
  unfold withL
  have := insL_len i l
  split
  · omega
  · split
    · rename_i h; rw [h] at this; simp at this; omega
    · rename_i h; rw [Bool.not_eq_true] at h; rw [h] at this; rw [List.length_append]; simp at this ⊢; omega
theorem ofL_len (l : List Int) : (ofL l).length ≤ 4096 := by rw [ofL_mask]; exact memM_le _ _

/-- The numbers below n. -/
theorem memM_ones (c : Nat) (hc : c ≤ 4096) : memM (2 ^ c - 1) 4096 = (List.range c).map fun i : Nat => (i : Int) := by
  symm
  refine memM_is ?_ fun x => ?_
  · rw [List.pairwise_map]
    exact List.pairwise_lt_range.imp fun h => by omega
  · rw [Nat.testBit_two_pow_sub_one]
    simp only [List.mem_map, List.mem_range, decide_eq_true_eq]
    constructor
    · rintro ⟨i, h, rfl⟩; exact ⟨by omega, by omega, by omega⟩
    · rintro ⟨a, b, c⟩; exact ⟨x.toNat, c, by omega⟩

/-- Those of one list that are, or are not, in another one. -/
theorem filter_not (M K : Nat) : (memM M 4096).filter (fun x => !decide (x ∈ memM K 4096)) = memM (anN M K) 4096 := by
  refine memM_is ((memM_sorted M 4096).filter _) fun x => ?_
  rw [List.mem_filter, memM_mem, anN_bit]
  simp only [Bool.not_eq_true', decide_eq_false_iff_not, memM_mem, Bool.and_eq_true, Bool.not_eq_true']
  constructor
  · rintro ⟨⟨a, b, c⟩, d⟩
    refine ⟨a, by omega, c, ?_⟩
    cases h : K.testBit x.toNat
    · rfl
    · exact absurd ⟨a, by omega, h⟩ d
  · rintro ⟨a, b, c, d⟩
    exact ⟨⟨a, by omega, c⟩, fun ⟨_, _, h⟩ => by rw [d] at h; cases h⟩
theorem filter_and (M K : Nat) : (memM M 4096).filter (fun x => decide (x ∈ memM K 4096)) = memM (M &&& K) 4096 := by
  refine memM_is ((memM_sorted M 4096).filter _) fun x => ?_
  rw [List.mem_filter, memM_mem, Nat.testBit_and]
  simp only [decide_eq_true_eq, memM_mem, Bool.and_eq_true]
  constructor
  · rintro ⟨⟨a, b, c⟩, d⟩; exact ⟨a, by omega, c, d.2.2⟩
  · rintro ⟨a, b, c, d⟩; exact ⟨⟨a, by omega, c⟩, ⟨a, by omega, d⟩⟩
theorem filter_take (p : Int → Bool) (l : List Int) (k : Nat) (h : k < l.length) : (l.take (k + 1)).filter p = if p (l.getD k 0) then (l.take k).filter p ++ [l.getD k 0] else (l.take k).filter p := by
  rw [List.take_succ_eq_append_getElem h, List.filter_append]
  have : l.getD k 0 = l[k] := by simp [List.getD, h]
  rw [this]
  by_cases hp : p l[k] = true
  · rw [if_pos hp, List.filter_cons_of_pos hp]; rfl
  · rw [if_neg hp, List.filter_cons_of_neg hp]; simp

theorem maskOf_append (l m : List Int) : maskOf (l ++ m) = maskOf l ||| maskOf m := by
  have key : ∀ (m : List Int) (M : Nat), m.foldl addM M = M ||| m.foldl addM 0 := by
    intro m
    induction m with
    | nil => intro M; simp
    | cons x t ih =>
      intro M
      rw [List.foldl_cons, List.foldl_cons, ih (addM M x), ih (addM 0 x), ← Nat.or_assoc]
      congr 1
      unfold addM
      split <;> simp
  unfold maskOf
  rw [List.foldl_append, key]
theorem maskOf_single (i : Int) : maskOf [i] = addM 0 i := rfl

/-- The set of the ascending list of a set is the set. -/
theorem maskOf_memS {M : Nat} (h : Small M) : maskOf (memM M 4096) = M := by
  refine memM_inj (maskOf_small _) h ?_
  rw [← ofL_mask]
  have key : ∀ (l acc : List Int), (acc ++ l).Pairwise (· < ·) → (∀ x ∈ acc ++ l, 0 ≤ x ∧ x ≤ 4095) → l.foldl withL acc = acc ++ l := by
    intro l
    induction l with
    | nil => intro acc _ _; simp
    | cons x t ih =>
      intro acc hp hb
      rw [List.foldl_cons]
      have hx := hb x (by simp)
      have hlt : ∀ y ∈ acc, y < x := fun y hy => (List.pairwise_append.1 hp).2.2 y hy x List.mem_cons_self
      have e : withL acc x = acc ++ [x] := by
        unfold withL
        have hn : x ∉ acc := fun h => by have := hlt x h; omega
        rw [if_neg (fun h => h.elim (fun h => by omega) fun h => h.elim (fun h => by omega) hn)]
        have h2 := ins_due x acc [] (List.pairwise_append.1 hp).1 hn
        unfold insL
        rw [h2, List.filter_eq_self.2 (fun y hy => by simpa using hlt y hy), List.filter_eq_nil_iff.2 (fun y hy => by have := hlt y hy; simp; omega)]
        simp
      rw [e, ih (acc ++ [x]) (by simpa using hp) (by simpa using hb)]
      simp
  have := key (memM M 4096) [] (by simpa using memM_sorted M 4096) (fun x hx => by
    have := memM_mem.1 (by simpa using hx)
    omega)
  simpa [ofL] using this
end Go.Proofs.YtoekdcobnmkpaaaGreatDoor
/-
  arbaclaw02.members: the members that bytes stand for.
-/
namespace Go.Proofs.YtoekdcobnmkpaaaGreatDoor
open Go.RowKit

/-- The cells of a list of ints. -/
def nv (xs : List Int) : List Value := xs.map (Value.int .i64)
theorem nv_length (xs : List Int) : (nv xs).length = xs.length := by simp [nv]

/-- The first k members. -/
def memb (xs : List Nat) (k : Nat) : List Int := (List.range k).map fun j => ((16 * xs.getD j 0 + j % 16 : Nat) : Int)
theorem memb_length (xs : List Nat) (k : Nat) : (memb xs k).length = k := by simp [memb]
theorem memb_succ (xs : List Nat) (k : Nat) : memb xs (k + 1) = memb xs k ++ [((16 * xs.getD k 0 + k % 16 : Nat) : Int)] := by
  simp [memb, List.range_succ]
/-- The members of bytes. -/
def membersOf (xs : List Nat) : List Int := memb xs (min xs.length 20)

theorem membersOf_in {xs : List Nat} (hb : ∀ b ∈ xs, b < 256) : ∀ i ∈ membersOf xs, 0 ≤ i ∧ i ≤ 4095 := by
  intro i hi
  simp only [membersOf, memb, List.mem_map, List.mem_range] at hi
  obtain ⟨j, hj, rfl⟩ := hi
  have : xs.getD j 0 < 256 := by
    rw [List.getD_eq_getElem?_getD, List.getElem?_eq_getElem (by omega)]
    exact hb _ (List.getElem_mem _)
  omega

/-- What is owned reads as its numbers. -/
theorem Ints.ofOwns {w : World} {base : Nat} {e : TypeId} {v : Value} {xs : List Int} {n : Nat} (ho : w.ownsRow base e 1 v n (nv xs)) : Ints w v xs := by
  have hl : xs.length = n := by have := ho.1; simpa [nv_length] using this
  subst hl
  have hcell := fun g (hg : v.ownBlock = some g) => ho.cells hg
  rcases ho.2 with ⟨rfl, h0⟩ | ⟨g, cap, cur, rfl, hb, hg, h1, h2, h3, h4⟩
  · exact Or.inl ⟨rfl, List.eq_nil_of_length_eq_zero h0⟩
  · refine Or.inr ⟨g, 0, cap, rfl, h1, h2, (Array.getElem?_eq_some_iff.1 hg).1, fun i hi => ?_⟩
    have := hcell g rfl i (.int .i64 (xs.getD i 0)) (by simp [nv, List.getD, hi])
    have hadd : (⟨g, 0, none⟩ : Addr).add i = ⟨g, 0 + i, none⟩ := by unfold Addr.add; split <;> simp_all
    rwa [hadd] at this

theorem info_i64m : (Tryz.prog.info? 3).map (fun i => (i.zero, i.size, i.bytes)) = some (some (.int .i64 0), 1, 8) := by kernel_rfl

end Go.Proofs.YtoekdcobnmkpaaaGreatDoor
/-
  arbacref01: Has, With, Of, Below on ascending lists.
-/
namespace Go.Proofs.YtoekdcobnmkpaaaGreatDoor
open Go.RowKit

theorem Ints.form {w : World} {v : Value} {xs : List Int} (h : Ints w v xs) : ∃ a c, v = .slice a xs.length c := by
  rcases h with ⟨rfl, rfl⟩ | ⟨g, off, cap, rfl, _⟩
  · exact ⟨_, _, rfl⟩
  · exact ⟨_, _, rfl⟩

/-- A row of ints of the call's own. -/
structure OwnI (W : World) (B : Nat) (v : Value) (xs : List Int) : Prop where
  own : W.ownsRow B 3 1 v xs.length (nv xs)
theorem OwnI.ints {W : World} {B : Nat} {v : Value} {xs : List Int} (h : OwnI W B v xs) : Ints W v xs := Ints.ofOwns h.own
theorem OwnI.lt {W : World} {B : Nat} {v : Value} {xs : List Int} (h : OwnI W B v xs) : ∀ k, v.ownBlock = some k → B ≤ k := fun k hk => (h.own.lt k hk).1
theorem OwnI.nil (W : World) (B : Nat) : OwnI W B (.slice none 0 0) [] := ⟨World.ownsRow_nil _ _ _ _⟩

/-- 'append(v, y...)' where v is a row of the call's own and y reads as ints. -/
theorem append_ints_run {W : World} {B : Nat} {v y : Value} {xs ys : List Int} (h : OwnI W B v xs) (hy : Ints W y ys) (hl : xs.length + ys.length ≤ 1000000) (hB : B ≤ W.heap.size) :
    ∃ a c w', (Builtin.append_ #[51, 51] 51 #[v, y]).run Tryz.prog W = .ok (.slice a (xs ++ ys).length c) w' ∧ OwnI w' B (.slice a (xs ++ ys).length c) (xs ++ ys) ∧ Kept (fun k => v.ownBlock = some k) W w' := by
  obtain ⟨i0, hi, hz0, hz1, hz2⟩ := info_parts info_i64m
  have key : ∃ v' w', (Builtin.append_ #[51, 51] 51 #[v, y]).run Tryz.prog W = .ok v' w' ∧ OwnI w' B v' (xs ++ ys) ∧ Kept (fun k => v.ownBlock = some k) W w' := by
    rcases hy with ⟨rfl, rfl⟩ | ⟨g, off, cap, rfl, h1, h2, h3, h4⟩
    · exact ⟨v, W, run_append_owned_none W B 51 51 3 i0 1 Tryz.underlying51 hi v _ _ h.own, by rw [List.append_nil]; exact h, Kept.refl _ _⟩
    · have hcells : ∀ j u, (nv ys)[j]? = some u → W.cell? ((⟨g, off, none⟩ : Addr).add j) = some u := fun j u hu => by
        have hadd : (⟨g, off, none⟩ : Addr).add j = ⟨g, off + j, none⟩ := by unfold Addr.add; split <;> simp_all
        have hj : j < ys.length := by
          have := (List.getElem?_eq_some_iff.1 hu).1
          rwa [nv_length] at this
        rw [hadd, h4 j hj, ← hu]
        simp [nv, List.getD, hj]
      obtain ⟨v', w', hr, ho, hg, _, hat⟩ := run_append_own_at (P := Tryz.prog) W B 51 51 3 i0 _ 1 8 Tryz.underlying51 hi hz0 hz1 hz2 rfl (by omega) v xs.length (nv xs) h.own ⟨g, off, none⟩ ys.length cap (nv ys)
        (by rw [nv_length, Nat.mul_one]) hcells (fun x hx => by simp only [nv, List.mem_map] at hx; obtain ⟨z, _, rfl⟩ := hx; rfl) (by unfold maxLen; omega) (by omega) hB
      exact ⟨v', w', hr, ⟨by rw [List.length_append]; simpa [nv] using ho⟩, Kept.ofGrown hg fun k e => e⟩
  obtain ⟨v', w', hr, hf, hk⟩ := key
  obtain ⟨a, c, rfl⟩ := hf.ints.form
  exact ⟨a, c, w', hr, hf, hk⟩

theorem own_new (w : World) : OwnI (w.alloc (.cells #[] 3)) w.heap.size (.slice (some ⟨w.heap.size, 0, none⟩) 0 0) [] :=
  ⟨by simp [nv], Or.inr ⟨w.heap.size, 0, #[], rfl, Nat.le_refl _, heap_alloc_new w _, Nat.le_refl _, Nat.zero_le _, by simp, by simp [nv]⟩⟩
theorem OwnI.alloc {W : World} {B : Nat} {v : Value} {xs : List Int} (h : OwnI W B v xs) (o : Obj) : OwnI (W.alloc o) B v xs := ⟨h.own.alloc _⟩

/-- An append whose run is known, asked for or not (a guard that holds). -/
theorem wpList_appendI_run {P : Program} {w : World} {ops : Array Oper} {rest : List Oper} {o : Oper} {a : Act} {Q : Exit → Act → World → Prop} (hw : Region.wanted o (yielded ops a.tmps) = true) (s x : Operand) (t t' : TypeId)
    (ho : o.op = .call { callee := .builtin .append, args := #[s, x], argTypes := #[t, t'] }) (v u : Value) (hd : a.eval s = v) (hs : a.eval x = u) {v' : Value} {w' : World}
    (hr : (Builtin.append_ #[t, t'] o.type #[v, u]).run P w = .ok v' w') (h : wpList P ops Q rest (a.put o.dst v') w') : wpList P ops Q (o :: rest) a w := by
  refine wpList_step fun K hK => ?_
  rw [if_pos hw]
  unfold Oper.wp execOp
  simp only [ho, resolve, invoke, builtin, Sem.run_bind, Sem.run_pure, Result.andThen_ok, List.map_toArray, List.map_cons, List.map_nil, hd, hs, hr]
  exact hK _ _ h

/-- An append of one number to a row of the call's own. -/
theorem wpList_push {w : World} {ops : Array Oper} {rest : List Oper} {o : Oper} {a : Act} {Q : Exit → Act → World → Prop} (hw : Region.wanted o (yielded ops a.tmps) = true) (s x : Operand)
    (ho : o.op = .call { callee := .builtin .append, args := #[s, x], argTypes := #[51, 51] }) (hty : o.type = 51) (B : Nat) (v : Value) (acc : List Int) (g : Nat) (z : Int) (hd : a.eval s = v) (hs : a.eval x = .slice (some ⟨g, 0, none⟩) 1 1)
    (hown : OwnI w B v acc) (hz : w.cell? ⟨g, 0, none⟩ = some (.int .i64 z)) (hl : acc.length ≤ 900000) (hB : B ≤ w.heap.size)
    (h : ∀ v' w', OwnI w' B v' (acc ++ [z]) → Kept (fun k => v.ownBlock = some k) w w' → wpList Tryz.prog ops Q rest (a.put o.dst v') w') : wpList Tryz.prog ops Q (o :: rest) a w := by
  have hI : Ints w (.slice (some ⟨g, 0, none⟩) 1 1) [z] := Or.inr ⟨g, 0, 1, rfl, Nat.le_refl _, by unfold maxLen; omega, World.block_lt_of_cell? w _ hz, fun i hi => by
    obtain rfl : i = 0 := by simpa using hi
    exact hz⟩
  obtain ⟨a', c', w', hr, hf, hk⟩ := append_ints_run hown hI (by simp; omega) hB
  exact wpList_appendI_run hw s x _ _ ho _ _ hd hs (by rw [hty]; exact hr) (h _ _ hf hk)

end Go.Proofs.YtoekdcobnmkpaaaGreatDoor
/-
  Plain words: what the library computes of a word is the number of its bits; a set's Len is the number of its members. No program is named here.
-/
namespace Go.Proofs.YtoekdcobnmkpaaaGreatDoor

/-- How many of the bits below n are set. -/
def cnt (x n : Nat) : Nat := ((List.range n).filter x.testBit).length

/-- A mask that is a byte, again and again. -/
def mkB (c : Nat) : Nat → Nat
  | 0 => 0
  | n + 1 => c + 256 * mkB c n
def byteMap (f : Nat → Nat) : Nat → Nat → Nat
  | 0, _ => 0
  | n + 1, x => f (x % 256) + 256 * byteMap f n (x / 256)

theorem and_byte (h l c m : Nat) (hl : l < 256) (hc : c < 256) : (l + 256 * h) &&& (c + 256 * m) = (l &&& c) + 256 * (h &&& m) := by
  have hlc : l &&& c < 2 ^ 8 := Nat.lt_of_le_of_lt Nat.and_le_left hl
  rw [show l + 256 * h = 2 ^ 8 * h + l by omega, show c + 256 * m = 2 ^ 8 * m + c by omega, show (l &&& c) + 256 * (h &&& m) = 2 ^ 8 * (h &&& m) + (l &&& c) by omega]
  refine Nat.eq_of_testBit_eq fun i => ?_
  rw [Nat.testBit_and, Nat.testBit_two_pow_mul_add _ hl, Nat.testBit_two_pow_mul_add _ hc, Nat.testBit_two_pow_mul_add _ hlc]
  by_cases hi : i < 8
  · simp [hi, Nat.testBit_and]
  · simp [hi, Nat.testBit_and]

def Q1 (l : Nat) : Nat := (l / 2 &&& 85) + (l &&& 85)
def Q2 (l : Nat) : Nat := (l / 4 &&& 51) + (l &&& 51)
def Q3 (l : Nat) : Nat := (l / 16 + l) &&& 15
theorem Q_facts : ∀ l : Fin 256, Q1 l.val < 256 ∧ Q2 (Q1 l.val) % 16 ≤ 4 ∧ Q2 (Q1 l.val) / 16 ≤ 4 ∧ Q3 (Q2 (Q1 l.val)) = cnt l.val 8 ∧ cnt l.val 8 ≤ 8 := by decide +kernel
theorem Q1_lt {l : Nat} (h : l < 256) : Q1 l < 256 := (Q_facts ⟨l, h⟩).1
theorem low85 : ∀ (p : Fin 128) (q : Fin 2), (p.val + 128 * q.val) &&& 85 = p.val &&& 85 := by decide +kernel
theorem low51 : ∀ (p : Fin 64) (q : Fin 4), (p.val + 64 * q.val) &&& 51 = p.val &&& 51 := by decide +kernel

theorem q1_map : ∀ (n x : Nat), x < 256 ^ n → (x / 2 &&& mkB 85 n) + (x &&& mkB 85 n) = byteMap Q1 n x
  | 0, x, h => by simp [mkB, byteMap]
  | n + 1, x, h => by
    have ih := q1_map n (x / 256) (Nat.div_lt_of_lt_mul (by rw [Nat.pow_succ, Nat.mul_comm] at h; exact h))
    have e : x = x % 256 + 256 * (x / 256) := by omega
    have e2 : x / 2 = (x % 256 / 2 + 128 * (x / 256 % 2)) + 256 * (x / 256 / 2) := by omega
    have hl : x % 256 / 2 + 128 * (x / 256 % 2) < 256 := by omega
    have h85 := low85 ⟨x % 256 / 2, by omega⟩ ⟨x / 256 % 2, by omega⟩
    simp only at h85
    have a1 := and_byte (x / 256 / 2) _ 85 (mkB 85 n) hl (by omega)
    have a2 := and_byte (x / 256) (x % 256) 85 (mkB 85 n) (by omega) (by omega)
    rw [← e2, h85] at a1
    rw [← e] at a2
    simp only [mkB, byteMap]
    rw [a1, a2, ← ih]
    simp only [Q1]
    omega
theorem q2_map : ∀ (n x : Nat), x < 256 ^ n → (x / 4 &&& mkB 51 n) + (x &&& mkB 51 n) = byteMap Q2 n x
  | 0, x, h => by simp [mkB, byteMap]
  | n + 1, x, h => by
    have ih := q2_map n (x / 256) (Nat.div_lt_of_lt_mul (by rw [Nat.pow_succ, Nat.mul_comm] at h; exact h))
    have e : x = x % 256 + 256 * (x / 256) := by omega
    have e2 : x / 4 = (x % 256 / 4 + 64 * (x / 256 % 4)) + 256 * (x / 256 / 4) := by omega
    have hl : x % 256 / 4 + 64 * (x / 256 % 4) < 256 := by omega
    have h51 := low51 ⟨x % 256 / 4, by omega⟩ ⟨x / 256 % 4, by omega⟩
    simp only at h51
    have a1 := and_byte (x / 256 / 4) _ 51 (mkB 51 n) hl (by omega)
    have a2 := and_byte (x / 256) (x % 256) 51 (mkB 51 n) (by omega) (by omega)
    rw [← e2, h51] at a1
    rw [← e] at a2
    simp only [mkB, byteMap]
    rw [a1, a2, ← ih]
    simp only [Q2]
    omega
theorem byteMap_lt (f : Nat → Nat) (hf : ∀ l, l < 256 → f l < 256) : ∀ n x, byteMap f n x < 256 ^ n
  | 0, x => by simp [byteMap]
  | n + 1, x => by
    have ih := byteMap_lt f hf n (x / 256)
    have := hf (x % 256) (by omega)
    simp only [byteMap]
    rw [Nat.pow_succ]
    omega
theorem byteMap_comp (f g : Nat → Nat) (hf : ∀ l, l < 256 → f l < 256) : ∀ n x, byteMap g n (byteMap f n x) = byteMap (fun l => g (f l)) n x
  | 0, x => by simp [byteMap]
  | n + 1, x => by
    have ih := byteMap_comp f g hf n (x / 256)
    have := hf (x % 256) (by omega)
    simp only [byteMap]
    rw [← ih]
    congr 2
    · omega
    · congr 2; omega
theorem mod15 (a : Nat) : a &&& 15 = a % 16 := Nat.and_two_pow_sub_one_eq_mod a 4
/-- The third step, of bytes whose halves are at most 4. -/
theorem q3_map (f : Nat → Nat) (hf : ∀ l, l < 256 → f l < 256 ∧ f l % 16 ≤ 4 ∧ f l / 16 ≤ 4) : ∀ (n x : Nat), (byteMap f n x / 16 + byteMap f n x) &&& mkB 15 n = byteMap (fun l => Q3 (f l)) n x ∧ (byteMap f n x) % 16 ≤ 4
  | 0, x => by simp [mkB, byteMap]
  | n + 1, x => by
    have ⟨ih, ih2⟩ := q3_map f hf n (x / 256)
    have ⟨f1, f2, f3⟩ := hf (x % 256) (by omega)
    simp only [byteMap, mkB]
    generalize byteMap f n (x / 256) = h at ih ih2
    generalize f (x % 256) = l at f1 f2 f3
    refine ⟨?_, by omega⟩
    have e : (l + 256 * h) / 16 + (l + 256 * h) = (l / 16 + l + 16 * (h % 16)) + 256 * (h / 16 + h) := by omega
    rw [e, and_byte _ _ _ _ (by omega) (by omega), ih]
    simp only [Q3, mod15]
    omega

theorem cnt_add (x n : Nat) : cnt x (8 + n) = cnt (x % 256) 8 + cnt (x / 256) n := by
  unfold cnt
  rw [List.range_add, List.filter_append, List.length_append, List.filter_map, List.length_map]
  congr 2
  · refine List.filter_congr fun i hi => ?_
    have : i < 8 := by simpa using hi
    rw [show (256 : Nat) = 2 ^ 8 from rfl, Nat.testBit_mod_two_pow]
    simp [this]
  · refine List.filter_congr fun i _ => ?_
    simp only [Function.comp]
    rw [show (256 : Nat) = 2 ^ 8 from rfl, Nat.testBit_div_two_pow, Nat.add_comm]

/-- What the library computes is the number of bits. -/
theorem popS_cnt (x : Nat) (hx : x < 18446744073709551616) : popS x = cnt x 64 := by
  have h1 : pop1 x = byteMap Q1 8 x := q1_map 8 x (by simpa using hx)
  have h2 : pop2 (pop1 x) = byteMap (fun l => Q2 (Q1 l)) 8 x := by
    rw [h1, ← byteMap_comp Q1 Q2 (fun l h => Q1_lt h)]
    exact q2_map 8 _ (byteMap_lt Q1 (fun l h => Q1_lt h) 8 x)
  have h3 : pop3 (pop2 (pop1 x)) = byteMap (fun l => Q3 (Q2 (Q1 l))) 8 x := by
    rw [h2]
    exact (q3_map (fun l => Q2 (Q1 l)) (fun l h => by
      have := Q_facts ⟨l, h⟩
      simp only at this
      omega) 8 x).1
  have hc : ∀ y, cnt (y % 256) 8 = Q3 (Q2 (Q1 (y % 256))) ∧ Q3 (Q2 (Q1 (y % 256))) ≤ 8 := fun y => by
    have := Q_facts ⟨y % 256, Nat.mod_lt _ (by omega)⟩
    simp only at this
    omega
  have hsum : cnt x 64 = Q3 (Q2 (Q1 (x % 256))) + (Q3 (Q2 (Q1 (x / 256 % 256))) + (Q3 (Q2 (Q1 (x / 256 / 256 % 256))) + (Q3 (Q2 (Q1 (x / 256 / 256 / 256 % 256))) + (Q3 (Q2 (Q1 (x / 256 / 256 / 256 / 256 % 256))) + (Q3 (Q2 (Q1 (x / 256 / 256 / 256 / 256 / 256 % 256))) + (Q3 (Q2 (Q1 (x / 256 / 256 / 256 / 256 / 256 / 256 % 256))) + (Q3 (Q2 (Q1 (x / 256 / 256 / 256 / 256 / 256 / 256 / 256 % 256)))))))))) := by
    rw [show (64 : Nat) = 8 + (8 + (8 + (8 + (8 + (8 + (8 + (8 + 0))))))) from rfl]
    simp only [cnt_add, hc]
    simp [cnt]
  unfold popS
  rw [h3, hsum]
  simp only [byteMap]
  have b0 := (hc x).2
  have b1 := (hc (x / 256)).2
  have b2 := (hc (x / 256 / 256)).2
  have b3 := (hc (x / 256 / 256 / 256)).2
  have b4 := (hc (x / 256 / 256 / 256 / 256)).2
  have b5 := (hc (x / 256 / 256 / 256 / 256 / 256)).2
  have b6 := (hc (x / 256 / 256 / 256 / 256 / 256 / 256)).2
  have b7 := (hc (x / 256 / 256 / 256 / 256 / 256 / 256 / 256)).2
  generalize Q3 (Q2 (Q1 (x % 256))) = c0 at *
  generalize Q3 (Q2 (Q1 (x / 256 % 256))) = c1 at *
  generalize Q3 (Q2 (Q1 (x / 256 / 256 % 256))) = c2 at *
  generalize Q3 (Q2 (Q1 (x / 256 / 256 / 256 % 256))) = c3 at *
  generalize Q3 (Q2 (Q1 (x / 256 / 256 / 256 / 256 % 256))) = c4 at *
  generalize Q3 (Q2 (Q1 (x / 256 / 256 / 256 / 256 / 256 % 256))) = c5 at *
  generalize Q3 (Q2 (Q1 (x / 256 / 256 / 256 / 256 / 256 / 256 % 256))) = c6 at *
  generalize Q3 (Q2 (Q1 (x / 256 / 256 / 256 / 256 / 256 / 256 / 256 % 256))) = c7 at *
  clear h1 h2 h3 hc hsum hx
  rw [show (127 : Nat) = 2 ^ 7 - 1 from rfl, Nat.and_two_pow_sub_one_eq_mod]
  obtain ⟨y, hy⟩ : ∃ y, y = c0 + 256 * (c1 + 256 * (c2 + 256 * (c3 + 256 * (c4 + 256 * (c5 + 256 * (c6 + 256 * (c7 + 256 * 0))))))) := ⟨_, rfl⟩
  rw [← hy]
  obtain ⟨z, hz⟩ : ∃ z, z = y + y / 256 := ⟨_, rfl⟩
  have hz2 : z = c0 + c1 + 256 * (c1 + c2 + 256 * (c2 + c3 + 256 * (c3 + c4 + 256 * (c4 + c5 + 256 * (c5 + c6 + 256 * (c6 + c7 + 256 * c7)))))) := by omega
  rw [← hz]
  clear hz hy
  obtain ⟨u, hu⟩ : ∃ u, u = z + z / 65536 := ⟨_, rfl⟩
  have hu2 : u = c0 + c1 + c2 + c3 + 256 * (c1 + c2 + c3 + c4 + 256 * (c2 + c3 + c4 + c5 + 256 * (c3 + c4 + c5 + c6 + 256 * (c4 + c5 + c6 + c7 + 256 * (c5 + c6 + c7 + 256 * (c6 + c7 + 256 * c7)))))) := by omega
  rw [← hu]
  clear hu hz2
  have hv : u / 4294967296 = c4 + c5 + c6 + c7 + 256 * (c5 + c6 + c7 + 256 * (c6 + c7 + 256 * c7)) := by omega
  rw [hv]
  omega

theorem cnt_words (M n : Nat) : ((wl M n).map popS).sum = cnt M (64 * n) := by
  induction n with
  | zero => rfl
  | succ n ih =>
    have e : wl M (n + 1) = wl M n ++ [M / 2 ^ (64 * n) % 2 ^ 64] := by simp [wl, List.range_succ]
    rw [e, List.map_append, List.sum_append, ih]
    have h1 : popS (M / 2 ^ (64 * n) % 2 ^ 64) = cnt (M / 2 ^ (64 * n) % 2 ^ 64) 64 := popS_cnt _ (Nat.mod_lt _ (by decide))
    simp only [List.map_cons, List.map_nil, List.sum_cons, List.sum_nil, Nat.add_zero]
    rw [h1]
    unfold cnt
    rw [show 64 * (n + 1) = 64 * n + 64 by omega, List.range_add, List.filter_append, List.length_append, List.filter_map, List.length_map]
    congr 2
    refine List.filter_congr fun i hi => ?_
    have hi : i < 64 := by simpa using hi
    rw [Nat.testBit_mod_two_pow, Nat.testBit_div_two_pow]
    simp [hi, Function.comp, Nat.add_comm]

/-- The number that Len returns. -/
theorem lenS_mem {M : Nat} {hs : List Nat} (hc : Canon hs (M / 2 ^ 64)) (hl : hs.length ≤ 63) : lenS M hs = (memM M 4096).length := by
  rw [← memM_all hc hl]
  unfold lenS
  have e1 : popS (M % 2 ^ 64) = ((wl M 1).map popS).sum := by simp [wl]
  have e2 : hs = wl (M / 2 ^ 64) hs.length := hc.eq
  have e3 : wl M (1 + hs.length) = wl M 1 ++ wl (M / 2 ^ 64) hs.length := by
    rw [← List.take_append_drop 1 (wl M (1 + hs.length)), wl_take _ _ _ (by omega), wl_drop1]
    simp
  have : popS (M % 2 ^ 64) + (hs.map popS).sum = ((wl M (1 + hs.length)).map popS).sum := by
    rw [e3, List.map_append, List.sum_append, ← e1]
    congr 2
    rw [← e2]
  rw [this, cnt_words]
  simp [cnt, memM]
end Go.Proofs.YtoekdcobnmkpaaaGreatDoor
/-
  slices.Equal of ints and of bytes.
-/
namespace Go.Proofs.YtoekdcobnmkpaaaGreatDoor
open Go.RowKit

theorem take_eq_succ' {α : Type} {d : α} {xs ys : List α} {k : Nat} (h : xs.take k = ys.take k) (hx : k < xs.length) (hy : k < ys.length) (he : xs.getD k d = ys.getD k d) : xs.take (k + 1) = ys.take (k + 1) := by
  rw [List.take_succ_eq_append_getElem hx, List.take_succ_eq_append_getElem hy, h]
  simp only [List.getD_eq_getElem?_getD, List.getElem?_eq_getElem hx, List.getElem?_eq_getElem hy, Option.getD_some] at he
  rw [he]
theorem ints_form {w : World} {v : Value} {xs : List Int} (h : Ints w v xs) : ∃ a c, v = .slice a xs.length c ∧ xs.length ≤ maxLen ∧ ∀ i, i < xs.length → ∃ g off, a = some ⟨g, off, none⟩ ∧ g < w.heap.size ∧ w.cell? ⟨g, off + i, none⟩ = some (.int .i64 (xs.getD i 0)) := by
  rcases h with ⟨h, h2⟩ | ⟨g, off, cap, h, h1, h3, h4, h5⟩
  · exact ⟨none, 0, by rw [h, h2]; rfl, by rw [h2]; simp, fun i hi => by rw [h2] at hi; simp at hi⟩
  · exact ⟨_, _, h, by omega, fun i hi => ⟨g, off, rfl, h4, h5 i hi⟩⟩

theorem reads_form {w : World} {v : Value} {xs : List Nat} (h : Reads w v xs) : ∃ a c, v = .slice a xs.length c ∧ xs.length ≤ maxLen ∧ ∀ i, i < xs.length → ∃ g off, a = some ⟨g, off, none⟩ ∧ g < w.heap.size ∧ w.cell? ⟨g, off + i, none⟩ = some (.int .u8 (xs.getD i 0 : Nat)) := by
  rcases h with ⟨h, h2⟩ | ⟨g, off, cap, h, h1, h3, h4, h5⟩
  · exact ⟨none, 0, by rw [h, h2]; rfl, by rw [h2]; simp, fun i hi => by rw [h2] at hi; simp at hi⟩
  · exact ⟨_, _, h, by omega, fun i hi => ⟨g, off, rfl, h4, h5 i hi⟩⟩

end Go.Proofs.YtoekdcobnmkpaaaGreatDoor
/-
  bits: slices.Clone of words; Below; Minus; Without; Or; And.
-/
namespace Go.Proofs.YtoekdcobnmkpaaaGreatDoor
open Go.RowKit

end Go.Proofs.YtoekdcobnmkpaaaGreatDoor
/-
  bits.Set.Minus.
-/
namespace Go.Proofs.YtoekdcobnmkpaaaGreatDoor
open Go.RowKit

/-- The boxes of two sets and of the result, in the worlds that follow. -/
structure Bx (w W : World) (lo1 lo2 : Nat) (v1 v2 : Value) : Prop where
  c0 : W.cell? ⟨w.heap.size, 0, none⟩ = some (.int .u64 (lo1 : Int))
  c1 : W.cell? ⟨w.heap.size, 1, none⟩ = some v1
  d0 : W.cell? ⟨w.heap.size + 1, 0, none⟩ = some (.int .u64 (lo2 : Int))
  d1 : W.cell? ⟨w.heap.size + 1, 1, none⟩ = some v2
  r0 : W.cell? ⟨w.heap.size + 1 + 1, 0, none⟩ = some (.int .u64 0)
  r1 : W.cell? ⟨w.heap.size + 1 + 1, 1, none⟩ = some (.slice none 0 0)
  f0 : W.frozen? ⟨w.heap.size + 1 + 1, 0, none⟩ = false
  f1 : W.frozen? ⟨w.heap.size + 1 + 1, 1, none⟩ = false
  lt : w.heap.size + 1 + 1 < W.heap.size
  kept : Kept (fun _ => False) w W

def bxW (w : World) (lo1 lo2 : Nat) (a1 : Option Addr) (n1 c1 : Nat) (a2 : Option Addr) (n2 c2 : Nat) : World :=
  ((w.alloc (.cells #[.int .u64 lo1, .slice a1 n1 c1] 27)).alloc (.cells #[.int .u64 lo2, .slice a2 n2 c2] 27)).alloc (.cells #[.int .u64 0, .slice none 0 0] 27)
theorem Bx.new (w : World) (lo1 lo2 : Nat) (a1 : Option Addr) (n1 c1 : Nat) (a2 : Option Addr) (n2 c2 : Nat) : Bx w (bxW w lo1 lo2 a1 n1 c1 a2 n2 c2) lo1 lo2 (.slice a1 n1 c1) (.slice a2 n2 c2) := by
  unfold bxW
  exact ⟨by go_simp, by go_simp, by go_simp, by go_simp, by go_simp, by go_simp, by go_simp, by go_simp, by simp, ((Kept.alloc _ _ _).then (Kept.alloc _ _ _)).then (Kept.alloc _ _ _)⟩
theorem Bx.on {w a b : World} {lo1 lo2 : Nat} {v1 v2 : Value} {S : Nat → Prop} (h : Bx w a lo1 lo2 v1 v2) (hk : Kept S a b) (hn : ∀ k, k ≤ w.heap.size + 2 → ¬ S k) : Bx w b lo1 lo2 v1 v2 := by
  have lt := h.lt
  exact ⟨(hk.cell (p := ⟨w.heap.size, 0, none⟩) (by simp; omega) (hn _ (by simp))).trans h.c0, (hk.cell (p := ⟨w.heap.size, 1, none⟩) (by simp; omega) (hn _ (by simp))).trans h.c1,
    (hk.cell (p := ⟨w.heap.size + 1, 0, none⟩) (by simp; omega) (hn _ (by simp))).trans h.d0, (hk.cell (p := ⟨w.heap.size + 1, 1, none⟩) (by simp; omega) (hn _ (by simp))).trans h.d1,
    (hk.cell (p := ⟨w.heap.size + 1 + 1, 0, none⟩) (by simp; omega) (hn _ (by simp))).trans h.r0, (hk.cell (p := ⟨w.heap.size + 1 + 1, 1, none⟩) (by simp; omega) (hn _ (by simp))).trans h.r1,
    (hk.frozen (p := ⟨w.heap.size + 1 + 1, 0, none⟩) (by simp; omega) (hn _ (by simp))).trans h.f0, (hk.frozen (p := ⟨w.heap.size + 1 + 1, 1, none⟩) (by simp; omega) (hn _ (by simp))).trans h.f1,
    Nat.lt_of_lt_of_le lt hk.size, h.kept.trans hk (fun _ _ h => h) (fun i hi hs => hn i (by omega) hs)⟩
theorem Bx.fin {w W : World} {lo1 lo2 : Nat} {v1 v2 : Value} (h : Bx w W lo1 lo2 v1 v2) (x y : Value) : Kept (fun _ => False) w ((W.setCell ⟨w.heap.size + 1 + 1, 0, none⟩ x).setCell ⟨w.heap.size + 1 + 1, 1, none⟩ y) :=
  h.kept.trans ((Kept.setCell (fun k => k = w.heap.size + 1 + 1) _ ⟨w.heap.size + 1 + 1, 0, none⟩ x rfl).trans (Kept.setCell (fun k => k = w.heap.size + 1 + 1) _ ⟨w.heap.size + 1 + 1, 1, none⟩ y rfl) (fun _ _ h => h) (fun _ _ h => h)) (fun _ _ h => h) (fun i hi e => by omega)

/-- A result whose words were trimmed. -/
theorem trim_set {w W W' : World} {v hv : Value} {N n lo : Nat} {hs : List Nat} (ht : TrimRes W v hs hv) (hh : hs = wl (N / 2 ^ 64) n) (hN : N / 2 ^ 64 < 2 ^ (64 * n)) (hlo : lo = N % 2 ^ 64) (hk : Kept (fun k => k = w.heap.size + 1 + 1) W W') (hb : ∀ k, v.ownBlock = some k → k ≠ w.heap.size + 1 + 1) :
    SetV W' (.agg #[.int .u64 lo, hv]) N ∧ (∀ k, hv.ownBlock = some k → v.ownBlock = some k) := by
  obtain ⟨t, h1, h2, h3, h4⟩ := ht.ex
  subst hh
  have hcan := h1.canon hN
  have hbl : ∀ k, hv.ownBlock = some k → v.ownBlock = some k := fun k hk2 => by
    rcases h4 with h4 | h4
    · rw [h4] at hk2; cases hk2
    · rw [← h4]; exact hk2
  refine ⟨⟨⟨hv, _, by rw [hlo], h2.kept hk (fun k hk2 e => hb k (hbl k hk2) e), hcan, fun hnil => ?_⟩⟩, hbl⟩
  refine h3 ?_
  have := congrArg List.length hnil
  have hle := h1.le
  rw [List.length_take, wl_length, List.length_nil] at this
  rw [wl_length] at hle
  omega

theorem row_form2 {W : World} {base : Nat} {e : TypeId} {size : Nat} {v : Value} {k : Nat} {xs : List Value} (h : W.ownsRow base e size v k xs) : (∃ a c, v = .slice a k c) ∧ ∀ r, v.ownBlock = some r → base ≤ r := by
  obtain ⟨_, hh⟩ := h
  rcases hh with ⟨rfl, rfl⟩ | ⟨g, cap, cur, rfl, hb, _⟩
  · exact ⟨⟨_, _, rfl⟩, fun r hr => by cases hr⟩
  · exact ⟨⟨_, _, rfl⟩, fun r hr => by have : g = r := by simpa [Value.ownBlock] using hr
                                       omega⟩
theorem row_slice2 {W : World} {base : Nat} {e : TypeId} {size : Nat} {a : Option Addr} {c k : Nat} {xs : List Value} (h : W.ownsRow base e size (.slice a k c) k xs) (hk : 0 < k) : ∃ g, a = some ⟨g, 0, none⟩ := by
  obtain ⟨_, hh⟩ := h
  rcases hh with ⟨_, h0⟩ | ⟨g, cap, cur, he, _⟩
  · omega
  · cases he; exact ⟨g, rfl⟩
/-- A row of words reads as words. -/
theorem words_row {W : World} {base : Nat} {v : Value} {n : Nat} {xs : List Nat} (h : W.ownsRow base 24 1 v n (wv xs)) : Words W v xs := by
  have hl := h.1
  have h0 := h
  rw [wv_length, Nat.mul_one] at hl
  obtain ⟨_, hh⟩ := h
  rcases hh with ⟨rfl, rfl⟩ | ⟨g, cap, cur, rfl, hb, hg, h1, h2, h3, h4⟩
  · exact Or.inl ⟨rfl, List.length_eq_zero_iff.1 hl⟩
  · refine Or.inr ⟨g, 0, cap, by rw [hl], by omega, h2, (Array.getElem?_eq_some_iff.1 hg).1, fun i hi => ?_⟩
    rw [Nat.zero_add, h0.cellAt i (by omega), wv_getD xs i hi]

end Go.Proofs.YtoekdcobnmkpaaaGreatDoor
/-
  bits.Set.Compare: the least difference of two sets, and the order.
-/
namespace Go.Proofs.YtoekdcobnmkpaaaGreatDoor
open Go.RowKit

/-- The least member of one set only. -/
structure LD (M K d : Nat) : Prop where
  ne : M.testBit d ≠ K.testBit d
  eq : ∀ i, i < d → M.testBit i = K.testBit i
theorem LD.uniq {M K d e : Nat} (h : LD M K d) (k : LD M K e) : d = e := by
  rcases Nat.lt_trichotomy d e with h1 | h1 | h1
  · exact absurd (k.eq d h1) h.ne
  · exact h1
  · exact absurd (h.eq e h1) k.ne
theorem wordN_at {M k i : Nat} (hi : i < 64) : (wordN M k).testBit i = M.testBit (64 * k + i) := by
  rw [wordN_bit]; simp [hi, Nat.add_comm]
theorem eq_words {M K N : Nat} (hM : M < 2 ^ (64 * N)) (hK : K < 2 ^ (64 * N)) (h : ∀ j, j < N → wordN M j = wordN K j) : M = K := by
  refine Nat.eq_of_testBit_eq fun i => ?_
  by_cases hi : i < 64 * N
  · have e : i = 64 * (i / 64) + i % 64 := by omega
    rw [e, ← wordN_at (by omega), ← wordN_at (by omega), h _ (by omega)]
  · have h1 : ∀ X, X < 2 ^ (64 * N) → X.testBit i = false := fun X hX => Nat.testBit_lt_two_pow (Nat.lt_of_lt_of_le hX (Nat.pow_le_pow_right (by omega) (by omega)))
    rw [h1 M hM, h1 K hK]
theorem ld_word {M K k : Nat} (hne : wordN M k ^^^ wordN K k ≠ 0) (hbe : ∀ j, j < k → wordN M j = wordN K j) :
    Lib.ctz 64 (wordN M k ^^^ wordN K k) < 64 ∧ LD M K (64 * k + Lib.ctz 64 (wordN M k ^^^ wordN K k)) := by
  have hy : wordN M k ^^^ wordN K k < 2 ^ 64 := Nat.xor_lt_two_pow (wordN_lt M k) (wordN_lt K k)
  have h0 : cutW (wordN M k ^^^ wordN K k) 0 ≠ 0 := by rw [cutW_zero]; exact hne
  have := cutW_low hy h0
  rw [cutW_zero] at this
  obtain ⟨_, h1, h2, h3, _⟩ := this
  generalize Lib.ctz 64 (wordN M k ^^^ wordN K k) = j at h1 h2 h3
  refine ⟨h1, ?_, fun i hi => ?_⟩
  · rw [Nat.testBit_xor, wordN_at h1, wordN_at h1] at h2
    intro e
    rw [e] at h2
    simp at h2
  · by_cases hk : i < 64 * k
    · have e : i = 64 * (i / 64) + i % 64 := by omega
      rw [e, ← wordN_at (by omega), ← wordN_at (by omega), hbe _ (by omega)]
    · have e : i = 64 * k + (i - 64 * k) := by omega
      have h4 := h3 (i - 64 * k) (by omega) (by omega)
      rw [Nat.testBit_xor, wordN_at (by omega), wordN_at (by omega), ← e] at h4
      cases h5 : M.testBit i <;> cases h6 : K.testBit i <;> rw [h5, h6] at h4 <;> simp at h4 ⊢
theorem xor_ne {a b : Nat} (h : a ^^^ b = 0) : a = b := by
  refine Nat.eq_of_testBit_eq fun i => ?_
  have := congrArg (fun n => n.testBit i) h
  simp only [Nat.testBit_xor, Nat.zero_testBit] at this
  cases h5 : a.testBit i <;> cases h6 : b.testBit i <;> rw [h5, h6] at this <;> simp at this ⊢
theorem ld_small {M K d : Nat} (h : LD M K d) (hM : Small M) (hK : Small K) : d ≤ 4095 := by
  rcases Nat.lt_or_ge 4095 d with h1 | h1
  · exfalso
    exact h.ne (by rw [Nat.testBit_lt_two_pow (hM d h1), Nat.testBit_lt_two_pow (hK d h1)])
  · exact h1

end Go.Proofs.YtoekdcobnmkpaaaGreatDoor
/-
  bits.Set.Compare.
-/
namespace Go.Proofs.YtoekdcobnmkpaaaGreatDoor
open Go.RowKit

/-- What Compare answers of sets whose least difference is d. -/
def cmpAt (M K d : Nat) : Int := if K.testBit d = true then (if M = 0 ∨ Nat.log2 M < d then -1 else 1) else (if K = 0 ∨ Nat.log2 K < d then 1 else -1)
/-- What it answers of two sets. -/
def CmpIs (M K : Nat) (r : Int) : Prop := (M = K ∧ r = 0) ∨ ∃ d, LD M K d ∧ r = cmpAt M K d

theorem SetV.onC {a b : World} {v : Value} {M : Nat} (h : SetV a v M) (hk : Kept (fun _ => False) a b) : SetV b v M := by
  obtain ⟨hv, hs, e, hw, hc, hn⟩ := h.ex
  exact ⟨⟨hv, hs, e, hw.kept hk (fun _ _ h => h), hc, hn⟩⟩

end Go.Proofs.YtoekdcobnmkpaaaGreatDoor
/-
  arbaclaw01: few, is; Len of any set.
-/
namespace Go.Proofs.YtoekdcobnmkpaaaGreatDoor
open Go.RowKit

end Go.Proofs.YtoekdcobnmkpaaaGreatDoor
/-
  Sets that lie in boxes of a call: a box reads as the set, and goes on to.
-/
namespace Go.Proofs.YtoekdcobnmkpaaaGreatDoor
open Go.RowKit

theorem SetV.form {w : World} {v : Value} {M : Nat} (h : SetV w v M) : ∃ (lo : Nat) (a : Option Addr) (n c : Nat), v = .agg #[.int .u64 (lo : Int), .slice a n c] := by
  obtain ⟨hv, hs, rfl, hw, _, _⟩ := h.ex
  obtain ⟨a, c, rfl⟩ := hw.form
  exact ⟨_, _, _, _, rfl⟩

/-- A block's two cells are a set's. -/
structure BoxAt (W : World) (p lo : Nat) (x : Value) : Prop where
  c0 : W.cell? ⟨p, 0, none⟩ = some (.int .u64 (lo : Int))
  c1 : W.cell? ⟨p, 1, none⟩ = some x
theorem BoxAt.on {S : Nat → Prop} {W W' : World} {p lo : Nat} {x : Value} (h : BoxAt W p lo x) (hk : Kept S W W') (hn : ¬ S p) : BoxAt W' p lo x :=
  ⟨(hk.cell (p := ⟨p, 0, none⟩) (World.block_lt_of_cell? W _ h.c0) hn).trans h.c0, (hk.cell (p := ⟨p, 1, none⟩) (World.block_lt_of_cell? W _ h.c1) hn).trans h.c1⟩
theorem BoxAt.onC {W W' : World} {p lo : Nat} {x : Value} (h : BoxAt W p lo x) (hk : Kept (fun _ => False) W W') : BoxAt W' p lo x := h.on hk (fun h => h)

theorem box2 (w : World) (la lb : Nat) (pa pb : Option Addr) (na ca nb cb : Nat) :
    BoxAt ((w.alloc (.cells #[.int .u64 la, .slice pa na ca] 27)).alloc (.cells #[.int .u64 lb, .slice pb nb cb] 27)) w.heap.size la (.slice pa na ca) ∧
    BoxAt ((w.alloc (.cells #[.int .u64 la, .slice pa na ca] 27)).alloc (.cells #[.int .u64 lb, .slice pb nb cb] 27)) (w.heap.size + 1) lb (.slice pb nb cb) ∧
    Kept (fun _ => False) w ((w.alloc (.cells #[.int .u64 la, .slice pa na ca] 27)).alloc (.cells #[.int .u64 lb, .slice pb nb cb] 27)) :=
  ⟨⟨by go_simp, by go_simp⟩, ⟨by go_simp, by go_simp⟩, (Kept.alloc _ _ _).then (Kept.alloc _ _ _)⟩
theorem box3 (w : World) (la lb lc : Nat) (pa pb pc : Option Addr) (na ca nb cb nc cc : Nat) :
    BoxAt (((w.alloc (.cells #[.int .u64 la, .slice pa na ca] 27)).alloc (.cells #[.int .u64 lb, .slice pb nb cb] 27)).alloc (.cells #[.int .u64 lc, .slice pc nc cc] 27)) w.heap.size la (.slice pa na ca) ∧
    BoxAt (((w.alloc (.cells #[.int .u64 la, .slice pa na ca] 27)).alloc (.cells #[.int .u64 lb, .slice pb nb cb] 27)).alloc (.cells #[.int .u64 lc, .slice pc nc cc] 27)) (w.heap.size + 1) lb (.slice pb nb cb) ∧
    BoxAt (((w.alloc (.cells #[.int .u64 la, .slice pa na ca] 27)).alloc (.cells #[.int .u64 lb, .slice pb nb cb] 27)).alloc (.cells #[.int .u64 lc, .slice pc nc cc] 27)) (w.heap.size + 1 + 1) lc (.slice pc nc cc) ∧
    Kept (fun _ => False) w (((w.alloc (.cells #[.int .u64 la, .slice pa na ca] 27)).alloc (.cells #[.int .u64 lb, .slice pb nb cb] 27)).alloc (.cells #[.int .u64 lc, .slice pc nc cc] 27)) :=
  ⟨⟨by go_simp, by go_simp⟩, ⟨by go_simp, by go_simp⟩, ⟨by go_simp, by go_simp⟩, ((Kept.alloc _ _ _).then (Kept.alloc _ _ _)).then (Kept.alloc _ _ _)⟩
end Go.Proofs.YtoekdcobnmkpaaaGreatDoor
/-
  arbaclaw15.TokenSets: all that its walk wants, side by side (the walk itself is not written yet).
-/
namespace Go.Proofs.YtoekdcobnmkpaaaGreatDoor
open Go.RowKit Go.Shelf

/-- The text of a set, stripped of its braces: how long it is, what bytes it has. -/
theorem set_inner (M : Nat) : (⟨(textS M).toArray⟩ : ByteArray) = ⟨(123 :: joinI (memM M 4096) ++ [125]).toArray⟩ ∧ ∀ b ∈ joinI (memM M 4096), ([123, 125] : List UInt8).contains b = false :=
  ⟨by rw [set_text], joinI_bytes _ (fun x hx => by obtain ⟨i, rfl, _⟩ := mem_nat hx; omega)⟩
end Go.Proofs.YtoekdcobnmkpaaaGreatDoor
/-
  For TokenSets: 16-bit numbers that came in, a set in a block of two cells, the set of numbers.
-/
namespace Go.Proofs.YtoekdcobnmkpaaaGreatDoor
open Go.Joins Go.ChangeShapes Go.WideShapes Go.ChangeAt Go.RowKit Go.Deep
set_option linter.unusedSimpArgs false
set_option linter.unusedVariables false

/-- The value reads as these 16-bit numbers. -/
def ReadsT (w : World) (v : Value) (xs : List Nat) : Prop :=
  (∃ a c, v = .slice a 0 c ∧ xs = []) ∨
  ∃ g off cap, v = .slice (some ⟨g, off, none⟩) xs.length cap ∧ xs.length ≤ cap ∧ cap ≤ maxLen ∧ g < w.heap.size ∧
    ∀ i, i < xs.length → w.cell? ⟨g, off + i, none⟩ = some (.int .u16 (xs.getD i 0 : Nat))
theorem ReadsT.kept {S : Nat → Prop} {a b : World} {v : Value} {xs : List Nat} (h : ReadsT a v xs) (hk : Kept S a b) (hn : ∀ k, v.ownBlock = some k → ¬ S k) : ReadsT b v xs := by
  rcases h with h | ⟨g, off, cap, rfl, h1, h2, h3, h4⟩
  · exact Or.inl h
  · exact Or.inr ⟨g, off, cap, rfl, h1, h2, Nat.lt_of_lt_of_le h3 hk.size, fun i hi => (hk.cell h3 (hn g rfl)).trans (h4 i hi)⟩
theorem ReadsT.at {w : World} {a : Option Addr} {n c k : Nat} {xs : List Nat} (hp : ReadsT w (.slice a n c) xs) (hk : k < xs.length) :
    ∃ g off, a = some ⟨g, off, none⟩ ∧ g < w.heap.size ∧ w.cell? ⟨g, off + k, none⟩ = some (.int .u16 (xs.getD k 0 : Nat)) := by
  rcases hp with ⟨_, _, _, rfl⟩ | ⟨g, off, cap, h, h1, h2, h4, h3⟩
  · simp at hk
  · cases h; exact ⟨g, off, rfl, h4, h3 k hk⟩
theorem ReadsT.len {w : World} {a : Option Addr} {n c : Nat} {xs : List Nat} (h : ReadsT w (.slice a n c) xs) : n = xs.length := by
  rcases h with ⟨_, _, h, rfl⟩ | ⟨g, off, cap, h, _⟩
  · cases h; rfl
  · cases h; rfl

set_option maxRecDepth 100000 in
/-- A slice of 16-bit numbers that came in. -/
theorem u16s_in {H : Type} {enc : TypeId × Value → H} {W : World} {base : Nat} {v : Value} {d : DataW H} {p : List MemPlace} (o : Value.okWide Tryz.prog W .any base 22 v) (h : DataW.Trod enc Tryz.prog W 0 (fun _ => true) true 22 v d p) :
    ∃ a n c xs, v = .slice a n c ∧ n ≤ c ∧ c ≤ maxLen ∧ ReadsT W (.slice a n c) xs ∧ ∀ x ∈ xs, x < 65536 := by
  obtain ⟨a, len, cap, rfl⟩ := okWide_slice Tryz.underlying22 o
  obtain ⟨fuel, hf⟩ := h
  rcases open_ints Tryz.underlying22 Tryz.underlying29 (by kernel_rfl) hf with ⟨hcs, _⟩ | ⟨x, l, c, zs, hcs, _, hl, hm, hz, _, hcell, hwz⟩
  · simp [Value.cells] at hcs
    obtain ⟨rfl, rfl, rfl⟩ := hcs
    exact ⟨_, _, _, [], rfl, Nat.le_refl _, Nat.zero_le _, Or.inl ⟨_, _, rfl, rfl⟩, by simp⟩
  · simp [Value.cells] at hcs
    obtain ⟨rfl, rfl, rfl⟩ := hcs
    have hzl : zs.length = cap := by simpa using hz
    by_cases h0 : len = 0
    · subst h0
      exact ⟨_, _, _, [], rfl, hl, hm, Or.inl ⟨_, _, rfl, rfl⟩, by simp⟩
    · have h1 := hcell 0 (by omega)
      rw [show x.add 0 = x from rfl] at h1
      have hs := World.cell?_spot h1
      have hb := World.block_lt_of_cell? W _ h1
      obtain ⟨g, off, spot⟩ := x
      simp only at hs hb
      subst hs
      have hn : ∀ n ∈ zs, ∃ m : Nat, n = (m : Int) ∧ m < 65536 := by
        intro n hn
        have := hwz n hn
        simp [Lit.wf, IntKind.min, IntKind.max, IntKind.signed, IntKind.bits] at this
        exact ⟨n.toNat, by omega, by omega⟩
      have hlen : ((zs.take len).map Int.toNat).length = len := by simp; omega
      refine ⟨_, _, _, (zs.take len).map Int.toNat, rfl, hl, hm, Or.inr ⟨g, off, cap, by rw [hlen], by omega, hm, hb, fun i hi => ?_⟩, ?_⟩
      · rw [hlen] at hi
        have hadd : (⟨g, off, none⟩ : Addr).add i = ⟨g, off + i, none⟩ := by unfold Addr.add; split <;> simp_all
        have := hcell i (by omega)
        rw [hadd] at this
        rw [this]
        have hiz : i < zs.length := by omega
        obtain ⟨m, hm1, hm2⟩ := hn (zs.getD i 0) (by simp [List.getD, hiz])
        have h1 : (List.map Int.toNat (List.take len zs)).getD i 0 = (zs.getD i 0).toNat := by
          simp [List.getD, hi, hiz]
        rw [h1, hm1]
        simp
      · intro b hb
        simp only [List.mem_map] at hb
        obtain ⟨n, hn1, rfl⟩ := hb
        obtain ⟨m, rfl, hm2⟩ := hn n (List.mem_of_mem_take hn1)
        simpa using hm2

/-- The set of these numbers. -/
def maskT (ys : List Nat) : Nat := ys.foldl (fun M v => M ||| 2 ^ (v % 4096)) 0
theorem maskT_take (ys : List Nat) (k : Nat) (h : k < ys.length) : maskT (ys.take (k + 1)) = maskT (ys.take k) ||| 2 ^ (ys.getD k 0 % 4096) := by
  rw [List.take_succ_eq_append_getElem h, maskT, List.foldl_append]
  simp [maskT, List.getD, h]
theorem maskT_small (ys : List Nat) : Small (maskT ys) := by
  have key : ∀ (l : List Nat) (M : Nat), Small M → Small (l.foldl (fun M v => M ||| 2 ^ (v % 4096)) M) := by
    intro l
    induction l with
    | nil => intro M h; exact h
    | cons x t ih => intro M h; exact ih _ (small_with h (by omega))
  exact key ys 0 (fun e _ => Nat.pow_pos (by omega))
theorem memM_or (M i : Nat) : (memM (M ||| 2 ^ i) 4096).length ≤ (memM M 4096).length + 1 := by
  unfold memM
  rw [List.length_map, List.length_map]
  have key : ∀ n : Nat, ((List.range n).filter fun j => (M ||| 2 ^ i).testBit j).length ≤ ((List.range n).filter fun j => M.testBit j).length + (if i < n then 1 else 0) := by
    intro n
    induction n with
    | zero => simp
    | succ n ih =>
      rw [List.range_succ, List.filter_append, List.filter_append, List.length_append, List.length_append]
      have h2 : ([n].filter fun j => (M ||| 2 ^ i).testBit j).length ≤ ([n].filter fun j => M.testBit j).length + (if i = n then 1 else 0) := by
        simp only [List.filter_cons, List.filter_nil, Nat.testBit_or, Nat.testBit_two_pow]
        by_cases e : i = n
        · simp only [e, decide_true, Bool.or_true, if_true]
          split <;> simp
        · simp only [e, decide_false, Bool.or_false, if_false]
          omega
      by_cases h1 : i < n
      · rw [if_pos h1] at ih
        rw [if_pos (by omega)]
        rw [if_neg (by omega)] at h2
        omega
      · rw [if_neg h1] at ih
        by_cases h3 : i = n
        · rw [if_pos (by omega)]
          rw [if_pos h3] at h2
          omega
        · rw [if_neg (by omega)]
          rw [if_neg h3] at h2
          omega
  have h3 : (if i < 4096 then 1 else 0) ≤ 1 := by split <;> omega
  exact Nat.le_trans (key 4096) (Nat.add_le_add_left h3 _)
theorem maskT_len (ys : List Nat) : (memM (maskT ys) 4096).length ≤ ys.length := by
  have key : ∀ (l : List Nat) (M : Nat), (memM (l.foldl (fun M v => M ||| 2 ^ (v % 4096)) M) 4096).length ≤ (memM M 4096).length + l.length := by
    intro l
    induction l with
    | nil => intro M; simp
    | cons x t ih =>
      intro M
      rw [List.foldl_cons]
      have h1 := ih (M ||| 2 ^ (x % 4096))
      have h2 := memM_or M (x % 4096)
      simp; omega
  have h0 : (memM 0 4096).length = 0 := by
    have : memM 0 4096 = [] := by
      unfold memM
      rw [List.map_eq_nil_iff, List.filter_eq_nil_iff]
      intro i _
      simp
    rw [this]; rfl
  have := key ys 0
  unfold maskT
  omega
theorem small_bits {M : Nat} (h : Small M) : ∀ i, 4096 ≤ i → M.testBit i = false := fun i hi => Nat.testBit_lt_two_pow (h i hi)
theorem inner_len {M : Nat} (h : (memM M 4096).length ≤ 60) : (joinI (memM M 4096)).length ≤ 400 := by
  have h1 := txt_le (memM M 4096) (fun x hx => by have := memM_in M 4096 x hx; omega)
  have h2 := congrArg List.length (set_text M)
  unfold textS at h2
  simp only [List.length_append, List.length_cons, List.length_nil] at h1 h2
  omega

/-- A pair as a set. -/
def pairT (p : Nat × Value) : Value := .agg #[.int .u64 (p.1 : Int), p.2]
/-- A set in a block of two cells. -/
structure BoxT (w : World) (g : Nat) (p : Nat × Value) (M : Nat) : Prop where
  c0 : w.cell? ⟨g, 0, none⟩ = some (.int .u64 (p.1 : Int))
  c1 : w.cell? ⟨g, 1, none⟩ = some p.2
  f0 : w.frozen? ⟨g, 0, none⟩ = false
  f1 : w.frozen? ⟨g, 1, none⟩ = false
  lt : g < w.heap.size
  set : SetV w (pairT p) M
  apart : ∀ k, setBlk (pairT p) k → k ≠ g
theorem setv_keptT {S : Nat → Prop} {a b : World} {v : Value} {M : Nat} (h : SetV a v M) (hk : Kept S a b) (hn : ∀ k, setBlk v k → ¬ S k) : SetV b v M := by
  obtain ⟨hv, hs, rfl, hw, hc, hz⟩ := h.ex
  exact ⟨⟨hv, hs, rfl, hw.kept hk (fun k hk' => hn k ⟨_, _, rfl, hk'⟩), hc, hz⟩⟩
theorem setv_ltT {w : World} {v : Value} {M : Nat} (h : SetV w v M) : ∀ k, setBlk v k → k < w.heap.size := by
  obtain ⟨hv, hs, rfl, hw, _, _⟩ := h.ex
  rintro k ⟨lo, hv', e, hb⟩
  cases e
  rcases hw with ⟨rfl, _⟩ | ⟨g, off, cap, rfl, _, _, hg, _⟩
  · simp [Value.ownBlock] at hb
  · simp [Value.ownBlock] at hb; omega
theorem BoxT.kept {S : Nat → Prop} {a b : World} {g : Nat} {p : Nat × Value} {M : Nat} (h : BoxT a g p M) (hk : Kept S a b) (hg : ¬ S g) (hS : ∀ k, setBlk (pairT p) k → ¬ S k) : BoxT b g p M :=
  ⟨(hk.cell (p := ⟨g, 0, none⟩) h.lt hg).trans h.c0, (hk.cell (p := ⟨g, 1, none⟩) h.lt hg).trans h.c1,
   (hk.frozen (p := ⟨g, 0, none⟩) h.lt hg).trans h.f0, (hk.frozen (p := ⟨g, 1, none⟩) h.lt hg).trans h.f1,
   Nat.lt_of_lt_of_le h.lt hk.size, setv_keptT h.set hk hS, h.apart⟩
theorem BoxT.stay {a b : World} {g : Nat} {p : Nat × Value} {M : Nat} (h : BoxT a g p M) (hk : Kept (fun _ => False) a b) : BoxT b g p M := h.kept hk (fun h => h) (fun _ _ h => h)
/-- Another set is laid into the block. -/
theorem BoxT.put {a : World} {g : Nat} {p q : Nat × Value} {M N : Nat} (h : BoxT a g p M) (hq : SetV a (pairT q) N) (ha : ∀ k, setBlk (pairT q) k → k ≠ g) :
    BoxT ((a.setCell ⟨g, 0, none⟩ (.int .u64 (q.1 : Int))).setCell ⟨g, 1, none⟩ q.2) g q N := by
  have k2 : Kept (fun k => k = g) a ((a.setCell ⟨g, 0, none⟩ (.int .u64 (q.1 : Int))).setCell ⟨g, 1, none⟩ q.2) := (Kept.setCell (fun k => k = g) a ⟨g, 0, none⟩ _ rfl).trans (Kept.setCell (fun k => k = g) _ ⟨g, 1, none⟩ _ rfl) (fun _ _ h => h) (fun _ _ h => h)
  refine ⟨?_, ?_, ?_, ?_, Nat.lt_of_lt_of_le h.lt k2.size, setv_keptT hq k2 ha, ha⟩
  · rw [World.cell?_setCell_other _ _ _ _ (fun e => by simp at e)]
    exact World.cell?_setCell_same _ _ _ h.c0
  · exact World.cell?_setCell_same _ _ _ ((World.cell?_setCell_other _ _ _ _ (fun e => by simp at e)).trans h.c1)
  · rw [World.frozen?_setCell, World.frozen?_setCell]; exact h.f0
  · rw [World.frozen?_setCell, World.frozen?_setCell]; exact h.f1
theorem box_newT (w : World) : BoxT (w.alloc (.cells #[.int .u64 0, .slice none 0 0] 27)) w.heap.size (0, .slice none 0 0) 0 := by
  refine ⟨?_, ?_, ?_, ?_, by simp, setv_none _, ?_⟩
  · show _ = some (Value.int .u64 0); go_simp
  · go_simp
  · go_simp
  · go_simp
  · rintro k ⟨lo, hv, he, hb⟩
    cases he
    simp [Value.ownBlock] at hb
theorem no_blkT (k : Nat) : ¬ setBlk (pairT (0, .slice none 0 0)) k := by
  rintro ⟨lo, hv, he, hb⟩
  cases he
  simp [Value.ownBlock] at hb
end Go.Proofs.YtoekdcobnmkpaaaGreatDoor
/-
  arbaclaw15.TokenSets returns true.
-/
namespace Go.Proofs.YtoekdcobnmkpaaaGreatDoor
open Go.RowKit Go.Shelf
set_option linter.unusedSimpArgs false
set_option linter.unusedVariables false

/-- Where a reader stands. -/
def nxW (w : World) (g : Nat) : Nat := match w.cell? ⟨g, 1, none⟩ with | some (.int _ n) => n.toNat | _ => 0
theorem nxW_rd {w : World} {g : Nat} {lv : Value} {l : List Tok} {r : RS} (h : RdP w g lv l r) : nxW w g = r.nx := by
  unfold nxW
  rw [h.c1]
  rfl
/-- What loop 1 keeps. -/
def InT (pb : Nat) (w2 wr : World) (ys : List Nat) (k : Nat) : Prop :=
  ∃ p, BoxT wr pb p (maskT (ys.take k)) ∧ (∀ j, setBlk (pairT p) j → w2.heap.size ≤ j) ∧ Kept (fun i => i = pb) w2 wr
/-- What loop 2 keeps. -/
def OutT (g pb : Nat) (lv : Value) (l : List Tok) (M : Nat) (w6 wr : World) : Prop :=
  ∃ r ns K p, RdP wr g lv l r ∧ r.er = 0 ∧ Rest (l.drop r.nx) ns ∧ (∀ n ∈ ns, n ≤ 4095) ∧ ns.foldl (fun k n => k ||| 2 ^ n) K = M ∧ BoxT wr pb p K ∧ Small K ∧
    (∀ j, setBlk (pairT p) j → w6.heap.size ≤ j) ∧ Kept (fun i => i = g ∨ i = pb) w6 wr
theorem zero_small : Small 0 := fun e _ => Nat.pow_pos (by omega)

set_option maxRecDepth 100000 in
set_option maxHeartbeats 6400000 in
theorem tsets_law (fa : Option Addr) (fn fc : Nat) (xs : List Nat) (b : Bool) (w : World) (hS : Sym w) (hT : Tz w) (hP : Lib.TabBelow Tryz.prog w.heap.size w "internal/strconv.uint64pow10" .u64 Lib.pow10Tab) (hM : MaxAt w)
    (hc : fn ≤ fc) (hcm : fc ≤ maxLen) (hx : ReadsT w (.slice fa fn fc) xs) (hb : ∀ x ∈ xs, x < 65536) :
    Calls Tryz.prog 3 #[.slice fa fn fc, .bool b] w fun e w' => e = .returned (.bool true) ∧ Kept (fun _ => False) w w' := by
  have hl := hx.len
  unfold maxLen at hcm
  obtain ⟨K, hK⟩ : ∃ K, K = min fn 20 := ⟨_, rfl⟩
  have hmin : min (fn : Int) 20 = (K : Int) := by omega
  have hK0 : (0 : Int) ≤ (K : Int) := by omega
  have hK1 : (K : Int) ≤ (fn : Int) := by omega
  have hK2 : (K : Int) ≤ (fc : Int) := by omega
  have hK3 : K ≤ fc := by omega
  have hK4 : K ≤ fn := by omega
  have hK5 : K ≤ 20 := by omega
  obtain ⟨ys, hys⟩ : ∃ ys, ys = xs.take 20 := ⟨_, rfl⟩
  have hyl : ys.length = K := by rw [hys, List.length_take]; omega
  have HYE : Hid (∀ k, k < K → ys.getD k 0 = xs.getD k 0 ∧ xs.getD k 0 < 65536 ∧ k < xs.length) := fun k hk => by
    have h1 : k < xs.length := by omega
    refine ⟨?_, ?_, h1⟩
    · rw [hys, List.getD_eq_getElem?_getD, List.getD_eq_getElem?_getD, List.getElem?_take_of_lt (by omega)]
    · rw [List.getD_eq_getElem?_getD, List.getElem?_eq_getElem h1]
      exact hb _ (List.getElem_mem _)
  have HYL := Lib.hid hyl
  have HS := Lib.hid hS; have HT := Lib.hid hT; have HP := Lib.hid hP; have HM := Lib.hid hM; have HX := Lib.hid hx
  have HAW := Lib.hid (awake15_any w hS)
  clear hS hT hP hM hx hb hl hK hys hyl
  go_enter Tryz.func3, Tryz.ntmps3
  go_wp2_with fail
  refine HAW.out.mono ?_
  rintro e w0 ⟨rfl, k0⟩
  have K0 := Lib.hid k0
  clear k0 HAW
  go_wp2_with fail
  refine (of_nil w0).mono ?_
  rintro e w1 ⟨rfl, k1⟩
  have K1 := Lib.hid (K0.out.then k1)
  clear k1 K0
  go_wp2_with fail
  have HIN : Hid (InT w1.heap.size (w1.alloc (.cells #[.int .u64 0, .slice none 0 0] 27)) (w1.alloc (.cells #[.int .u64 0, .slice none 0 0] 27)) ys 0) :=
    ⟨(0, .slice none 0 0), box_newT w1, fun j hj => absurd hj (no_blkT j), Kept.refl _ _⟩
  have hpb : w.heap.size ≤ w1.heap.size := K1.out.size
  have K2 : Hid (Kept (fun _ => False) w (w1.alloc (.cells #[.int .u64 0, .slice none 0 0] 27))) := K1.out.then (Kept.alloc _ _ _)
  have hpb2 : w1.heap.size < (w1.alloc (.cells #[.int .u64 0, .slice none 0 0] 27)).heap.size := by simp
  generalize w1.alloc (.cells #[.int .u64 0, .slice none 0 0] 27) = w2 at HIN K2 hpb2 ⊢
  clear K1
  generalize w1.heap.size = pb at *
  go_loopw [25] (fun iv wr => ∃ k : Nat, k ≤ K ∧ iv = .int .i64 k ∧ Hid (InT pb w2 wr ys k)) (fun iv _ => K - (intOf iv).toNat)
  case atStart => exact ⟨0, by omega, rfl, HIN⟩
  case round =>
    obtain ⟨k, hk, rfl, hin⟩ := hrel
    obtain ⟨⟨lo, hv⟩, hbox, hblk, hk2⟩ := hin.out
    obtain ⟨lo', sa, sn, sc, hform⟩ := hbox.set.form
    obtain ⟨rfl, rfl⟩ : lo = lo' ∧ hv = .slice sa sn sc := by
      simp [pairT] at hform
      exact ⟨by omega, hform.2⟩
    have KW : Hid (Kept (fun _ => False) w wr) := K2.out.trans hk2 (T := fun _ => False) (fun _ _ h => h) (fun i hi e => by omega)
    by_cases hlt : k < K
    · have t1 : (k : Int) < (K : Int) := by omega
      have t0 : (0 : Int) ≤ (k : Int) := by omega
      obtain ⟨e1, e2, e3⟩ := HYE.out k hlt
      obtain ⟨g2, off2, rfl, hg2, hcy⟩ := (HX.out.kept KW.out (fun _ _ h => h)).at (k := k) e3
      obtain ⟨y, hy⟩ : ∃ y, y = xs.getD k 0 := ⟨_, rfl⟩
      rw [← hy] at hcy e1 e2
      have hmt := maskT_take ys k (by rw [HYL.out]; exact hlt)
      rw [e1] at hmt
      obtain ⟨m, hm⟩ : ∃ m, m = y % 4096 := ⟨_, rfl⟩
      rw [← hm] at hmt
      have hm5 : m ≤ 4095 := by omega
      have HWI := Lib.hid (with_any wr _ (maskT (ys.take k)) m hbox.set (maskT_small _) hm5)
      have HBX := Lib.hid hbox; have HBL := Lib.hid hblk; have HK2 := Lib.hid hk2
      have hE : IntKind.i64.wrap (y : Int) = (y : Int) ∧ (y : Int).tmod 4096 = (m : Int) ∧ (y : Int) % 4096 = (m : Int) := ⟨IntWalk.i64_in _ (by omega), by rw [Int.tmod_eq_emod_of_nonneg (by omega)]; omega, by omega⟩
      have HMT := Lib.hid hmt
      clear hmt hform hin hy hm e1 e2 e3
      obtain ⟨e1, e2, e3⟩ := hE
      obtain ⟨c0', c1', _, _, _, _, _⟩ := hbox
      go_wp2_with fail
      refine HWI.out.mono ?_
      rintro e wr2 ⟨v', rfl, hset', hblk', hk'⟩
      obtain ⟨lo2, sa2, sn2, sc2, rfl⟩ := hset'.form
      have hbx2 := HBX.out.stay hk'
      have hwz := Nat.lt_of_lt_of_le hpb2 HK2.out.size
      have hb2 : ∀ j, setBlk (pairT (lo2, .slice sa2 sn2 sc2)) j → w2.heap.size ≤ j ∧ j ≠ pb := fun j hj => by
        rcases hblk' j hj with h | h
        · exact ⟨HBL.out j h, HBX.out.apart j h⟩
        · have := HK2.out.size; exact ⟨by omega, by omega⟩
      have hput := hbx2.put (q := (lo2, .slice sa2 sn2 sc2)) hset' (fun j hj => (hb2 j hj).2)
      have HIN2 : Hid (InT pb w2 ((wr2.setCell ⟨pb, 0, none⟩ (.int .u64 (lo2 : Int))).setCell ⟨pb, 1, none⟩ (.slice sa2 sn2 sc2)) ys (k + 1)) :=
        ⟨(lo2, .slice sa2 sn2 sc2), by rw [HMT.out]; exact hput, fun j hj => (hb2 j hj).1, (HK2.out.trans hk' (fun _ _ h => h) (fun _ _ h => h.elim) (T := fun i => i = pb)).trans ((Kept.setCell (fun k => k = pb) wr2 ⟨pb, 0, none⟩ _ rfl).trans (Kept.setCell (fun k => k = pb) _ ⟨pb, 1, none⟩ _ rfl) (fun _ _ h => h) (fun _ _ h => h)) (fun _ _ h => h) (fun _ _ h => h)⟩
      obtain ⟨d0, d1, d2, d3, _, _, _⟩ := hbx2
      clear hput hb2 hset' hblk' hk' c0' c1' e1 e2 e3 hwz
      go_wp2_with fail
      go_roundw
      case rel => exact ⟨k + 1, by omega, by go_num, HIN2⟩
      case measure => simp [intOf]; omega
    · obtain rfl : k = K := by omega
      have hml := maskT_len ys
      rw [HYL.out] at hml
      have hbox1 := hbox
      rw [← HYL.out, List.take_length] at hbox1
      obtain ⟨M, hMM⟩ : ∃ M, M = maskT ys := ⟨_, rfl⟩
      have hMS : Small M := by rw [hMM]; exact maskT_small ys
      rw [← hMM] at hml hbox1
      have hJL := inner_len (M := M) (by omega)
      have HBX := Lib.hid hbox1
      have HTX := Lib.hid (text_any wr _ M hbox1.set hMS (HT.out.kept KW.out (fun h => h)) (tab_on HP.out (KW.out.below (Nat.le_refl _) (fun _ h => h.elim)) KW.out.size))
      rw [set_text] at HTX
      have HJB := Lib.hid (set_inner M).2
      have HSC := Lib.hid (scan_set M (by omega))
      have HSD := Lib.hid (scan_setC M (by omega))
      have HNS : Hid (∀ n ∈ (memM M 4096).map Int.toNat, n ≤ 4095) := fun n hn => by
        obtain ⟨x, hx, rfl⟩ := List.mem_map.1 hn
        have := memM_in M 4096 x hx
        omega
      have HFO := Lib.hid (fold_set M (small_bits hMS))
      generalize (memM M 4096).map Int.toNat = ns0 at HSC HSD HNS HFO
      generalize joinI (memM M 4096) = J at HTX HJB HSC HSD hJL
      have HTR := Lib.hid (fun W => braces_any J HJB.out (by omega) W)
      have HCO : Hid (∀ W, MaxAt W → Calls Tryz.prog 9 #[.string ⟨J.toArray⟩, .string ⟨#[32]⟩, .string ⟨#[44]⟩] W fun e w' => e = .returned (.string ⟨(J.map toComma).toArray⟩) ∧ Kept (fun _ => False) W w') := fun W hW =>
        comma_any ⟨J.toArray⟩ W hW (by show J.toArray.size ≤ _; simp; omega)
      have z1 : (⟨J.toArray⟩ : ByteArray).size ≤ 400 := by show J.toArray.size ≤ _; simpa using hJL
      have z2 : (⟨(J.map toComma).toArray⟩ : ByteArray).size ≤ 400 := by show (J.map toComma).toArray.size ≤ _; simpa using hJL
      generalize (⟨(J.map toComma).toArray⟩ : ByteArray) = tc at HSD HCO z2
      clear hml hform hin hblk hk2 HIN hbox hMM hMS hJL HJB
      obtain ⟨c0', c1', _, _, hpw, _, _⟩ := hbox1
      go_wp2_with fail
      refine HTX.out.mono ?_
      rintro e w3 ⟨rfl, k3⟩
      have K3 := Lib.hid k3
      clear k3
      go_wp2_with fail
      refine (HTR.out _).mono ?_
      rintro e w4 ⟨rfl, k4⟩
      have K4 := Lib.hid (K3.out.then k4)
      clear k4 K3 HTX HTR
      generalize (⟨J.toArray⟩ : ByteArray) = tb at HSC HCO z1 ⊢
      cases b
      case false =>

        have HRE := Lib.hid HSC.out.2
        have hls := scanS_len tb
        have HLN := Lib.hid (show (scanS tb).1.length ≤ 1000 by omega)
        have H1 := Lib.hid (fun W hW => tscan_any tb W (by omega) hW)
        have h2 := HSC.out.1
        obtain ⟨R, hR⟩ : ∃ R, R = scanS tb := ⟨_, rfl⟩
        rw [← hR] at HRE HLN h2
        simp only [← hR] at H1
        obtain ⟨l, o2⟩ := R
        simp only at HRE HLN h2 H1
        subst h2
        simp only at H1
        clear hR hls HSC HSD HCO
        go_wp2_with fail
        refine (H1.out _ (HS.out.kept (KW.out.then K4.out) (fun h => h))).mono ?_
        rintro e w5 ⟨v5, rfl, o5, k5⟩
        have T5 := Lib.hid o5.toks
        have K5 := Lib.hid (K4.out.then k5)
        clear k5 K4 H1
        obtain ⟨la, lc, rfl, zz1, zz2⟩ := o5.form
        clear o5
        go_wp2_with fail
        refine (newRd_any _ l w5 T5.out (by have := HLN.out; omega)).mono ?_
        rintro e w6 ⟨g, lv, rfl, r6, hg6, hlv6, k6⟩
        have R6 := Lib.hid r6
        have K6 := Lib.hid (K5.out.then k6)
        have hg5 : wr.heap.size ≤ w5.heap.size := K5.out.size
        clear k6 K5
        go_wp2_with fail
        refine (of_nil w6).mono ?_
        rintro e w7 ⟨rfl, k7⟩
        have R7 := Lib.hid (R6.out.stay k7)
        have hg7 := R6.out.lt
        have K7 := Lib.hid (K6.out.then k7)
        have hs7 := k7.size
        clear k7 K6
        go_wp2_with fail
        have HB7 := Lib.hid (box_newT w7)
        have R8 : Hid (RdP (w7.alloc (.cells #[.int .u64 0, .slice none 0 0] 27)) g lv l ⟨0, 0, 0⟩) := R7.out.stay (Kept.alloc _ _ _)
        have hq1 : w7.heap.size < (w7.alloc (.cells #[.int .u64 0, .slice none 0 0] 27)).heap.size := by simp
        have K8 : Hid (Kept (fun _ => False) wr (w7.alloc (.cells #[.int .u64 0, .slice none 0 0] 27))) := K7.out.then (Kept.alloc _ _ _)
        have hgq : g < w7.heap.size := Nat.lt_of_lt_of_le hg7 hs7
        have hlq : ∀ k, lv.ownBlock = some k → k < w7.heap.size := fun k hk => Nat.lt_of_lt_of_le (R6.out.row.lt k hk) hs7
        generalize w7.alloc (.cells #[.int .u64 0, .slice none 0 0] 27) = w8 at HB7 R8 hq1 K8 ⊢
        generalize w7.heap.size = qb at *
        have HOU : Hid (OutT g qb lv l M w8 w8) := ⟨⟨0, 0, 0⟩, ns0, 0, (0, .slice none 0 0), R8.out, rfl, HRE.out, HNS.out, HFO.out, HB7.out, zero_small, fun j hj => absurd hj (no_blkT j), Kept.refl _ _⟩
        have HLQ := Lib.hid hlq
        clear hlq hlv6 R6 R7 R8 HB7 K7
        obtain ⟨wo, rfl⟩ : ∃ wo : World, wo = wr := ⟨_, rfl⟩
        go_loopw [] (fun wr => Hid (OutT g qb lv l M w8 wr)) (fun wr => l.length - nxW wr g)
        case atStart => exact HOU
        case round =>
          obtain ⟨r, ns, KK, ⟨lo2, hv2⟩, hrd, her, hre, hns, hfo, hbx, hsm, hbl, hkk⟩ := hrel.out
          obtain ⟨lo3, ta, tn, tcp, hform2⟩ := hbx.set.form
          obtain ⟨rfl, rfl⟩ : lo2 = lo3 ∧ hv2 = .slice ta tn tcp := by
            simp [pairT] at hform2
            exact ⟨by omega, hform2.2⟩
          have HRD := Lib.hid hrd; have HBB := Lib.hid hbx; have HBL := Lib.hid hbl; have HKK := Lib.hid hkk
          have HPK := Lib.hid hrd.peek
          have hm := nxW_rd hrd
          cases ns with
          | nil =>
            have hp0 := rest_end her hre
            generalize peekS l r = pk at HPK hp0
            obtain ⟨pk0, pk1, pk2, pk3⟩ := pk
            simp only at hp0
            subst hp0
            have hfo2 : KK = M := hfo
            subst hfo2
            have hx1 := HBX.out.stay K8.out
            have hx2 := hx1.kept hkk (fun e => by rcases e with e | e <;> omega) (fun j hj e => by have := setv_ltT HBX.out.set j hj; rcases e with e | e <;> omega)
            have HE := Lib.hid (fun W (k : Kept (fun _ => False) wr W) => equal_any W _ _ KK KK (hbx.stay k).set (hx2.stay k).set)
            have HZ : Hid (∀ W, Kept (fun _ => False) wr W → Kept (fun _ => False) w W) := fun W k => ((KW.out.then K8.out).trans hkk (T := fun _ => False) (fun _ _ h => h) (fun i hi e => by have := KW.out.size; rcases e with e | e <;> omega)).then k
            have HB1 := Lib.hid (fun W (k : Kept (fun _ => False) wr W) => (hbx.stay k).c0)
            have HB2 := Lib.hid (fun W (k : Kept (fun _ => False) wr W) => (hbx.stay k).c1)
            have HB3 := Lib.hid (fun W (k : Kept (fun _ => False) wr W) => (hx2.stay k).c0)
            have HB4 := Lib.hid (fun W (k : Kept (fun _ => False) wr W) => (hx2.stay k).c1)
            clear hrd her hre hns hfo hbx hsm hbl hkk hx1 hx2 hform2 hrel hm
            go_wp2_with fail
            refine HPK.out.mono ?_
            rintro e wa ⟨rfl, ka⟩
            have KA := Lib.hid ka
            have b1 := HB1.out wa ka; have b2 := HB2.out wa ka; have b3 := HB3.out wa ka; have b4 := HB4.out wa ka
            clear ka
            simp only [tkV]
            have hfd : ∀ W : World, (Instr.field 42 (.agg #[.int .u8 0, .string pk1, .int .i64 pk2, .int .i64 pk3]) 0).run Tryz.prog W = .ok (.int .u8 0) W := fun _ => by kernel_rfl
            go_wp2_with fail
            refine (HE.out wa KA.out).mono ?_
            rintro e wb ⟨rfl, kb⟩
            have KB := Lib.hid (HZ.out wb (KA.out.then kb))
            clear kb b1 b2 b3 b4
            go_wp2_with fail
            go_ret
            exact ⟨by simp, KB.out⟩
          | cons n ns =>
            have hn4 := hns n (by simp)
            obtain ⟨hp0, hnu, r2, hac, her2, hlt2, hle2, hre2⟩ := rest_step her hre hn4
            have HNU := Lib.hid (fun W (k : Kept (fun _ => False) wr W) => (hrd.stay k).number 0 4095)
            rw [hnu] at HNU
            generalize peekS l r = pk at HPK hp0
            obtain ⟨pk0, pk1, pk2, pk3⟩ := pk
            simp only at hp0
            subst hp0
            obtain ⟨r1, hr1⟩ : ∃ r1, r1 = (numS15 l r 0 4095).1 := ⟨_, rfl⟩
            rw [← hr1] at HNU hac
            have HAC := Lib.hid (fun W (h : RdP W g lv l r1) => h.accept ⟨#[44]⟩)
            rw [hac] at HAC
            have HER := Lib.hid (fun W (h : RdP W g lv l r2) => h.errs)
            rw [her2] at HER
            have HC0 := Lib.hid (fun W (k : Kept (fun i => i = g) wr W) => hbx.kept k (fun e => by omega) (fun j hj e => by have := hbl j hj; omega))
            have HRE2 : Hid (∀ W p, RdP W g lv l r2 → BoxT W qb p (KK ||| 2 ^ n) → (∀ j, setBlk (pairT p) j → w8.heap.size ≤ j) → Kept (fun i => i = g ∨ i = qb) wr W → OutT g qb lv l M w8 W) := fun W p q1 q2 q3 q4 =>
              ⟨r2, ns, KK ||| 2 ^ n, p, q1, her2, hre2, fun x hx => hns x (List.mem_cons_of_mem _ hx), hfo, q2, small_with hsm hn4, q3, hkk.trans q4 (fun _ _ h => h) (fun _ _ h => h)⟩
            have HWT : Hid (∀ W, Kept (fun i => i = g) wr W → Calls Tryz.prog 6 #[.agg #[.int .u64 (lo2 : Int), .slice ta tn tcp], .int .i64 n] W fun e w' => ∃ v', e = .returned v' ∧ SetV w' v' (KK ||| 2 ^ n) ∧ (∀ k, setBlk v' k → setBlk (pairT (lo2, .slice ta tn tcp)) k ∨ W.heap.size ≤ k) ∧ Kept (fun _ => False) W w') := fun W k => with_any W _ KK n (HC0.out W k).set hsm hn4
            have HSM := Lib.hid hsm
            have hwq : w8.heap.size ≤ wr.heap.size := hkk.size
            have HME : Hid (∀ W, RdP W g lv l r2 → l.length - nxW W g < l.length - nxW wr g) := fun W q => by rw [hm, nxW_rd q]; omega
            clear hrd her hre hns hfo hbx hsm hbl hkk hform2 hrel hm hac her2 hre2 hnu hr1
            have l0 : (0 : Int) ≤ (n : Int) := by omega
            have l1 : (n : Int) ≤ 4095 := by omega
            go_wp2_with fail
            refine HPK.out.mono ?_
            rintro e wa ⟨rfl, ka⟩
            have KA := Lib.hid ka
            have hba := HC0.out wa (ka.mono (fun _ _ h => h.elim))
            have b1 := hba.c0; have b2 := hba.c1
            clear ka hba
            simp only [tkV]
            have hfd : ∀ W : World, (Instr.field 42 (.agg #[.int .u8 2, .string pk1, .int .i64 pk2, .int .i64 pk3]) 0).run Tryz.prog W = .ok (.int .u8 2) W := fun _ => by kernel_rfl
            go_wp2_with fail
            go_region_with ((first | (go_at_call 13; refine (HNU.out _ (by first | exact KA.out.drew | exact KA.out | exact KA.out.drewN _)).mono ?_; rintro e wb ⟨rfl, rb, kb⟩; have RB := Lib.hid rb; have KB : Hid (Kept (fun i => i = g) wr wb) := Kept.trans (T := fun i => i = g) (show Kept (fun _ => False) wr _ from by first | exact KA.out.drew | exact KA.out | exact KA.out.drewN _) kb (fun _ _ h => h.elim) (fun _ _ h => h); have hbb := HC0.out wb KB.out; have b3 := hbb.c0; have b4 := hbb.c1; clear rb kb hbb) | (go_at_call 6; refine (HWT.out _ (by first | exact KB.out | exact KB.out.drew)).mono ?_; rintro e wd ⟨v', rfl, hset', hblk', kd⟩; obtain ⟨lo4, ta4, tn4, tc4, rfl⟩ := hset'.form; have KD : Hid (Kept (fun i => i = g) wr wd) := Kept.trans (T := fun i => i = g) KB.out kd (fun _ _ h => h) (fun _ _ h => h.elim); have KBD := Lib.hid kd; have hbd := HC0.out wd KD.out; have b5 := hbd.c0; have b6 := hbd.c1; have b7 := hbd.f0; have b8 := hbd.f1; have HBD := Lib.hid hbd; have HST := Lib.hid hset'; have RD : Hid (RdP wd g lv l r1) := (by first | exact RB.out.stay kd | exact (RB.out.stay (Kept.refl _ _).drew).stay kd); have HB4 : Hid (∀ j, setBlk (pairT (lo4, .slice ta4 tn4 tc4)) j → w8.heap.size ≤ j) := (fun j hj => (hblk' j hj).elim (fun h => HBL.out j h) (fun h => Nat.le_trans hwq (Nat.le_trans KB.out.size h))); clear hset' hblk' kd hbd)))
            all_goals
              have hput := HBD.out.put (q := (lo4, .slice ta4 tn4 tc4)) HST.out (fun j hj => by have := HB4.out j hj; omega)
              have KSC : Kept (fun k => k = qb) wd ((wd.setCell ⟨qb, 0, none⟩ (.int .u64 (lo4 : Int))).setCell ⟨qb, 1, none⟩ (.slice ta4 tn4 tc4)) := (Kept.setCell (fun k => k = qb) wd ⟨qb, 0, none⟩ _ rfl).trans (Kept.setCell (fun k => k = qb) _ ⟨qb, 1, none⟩ _ rfl) (fun _ _ h => h) (fun _ _ h => h)
              have R9 : Hid (RdP ((wd.setCell ⟨qb, 0, none⟩ (.int .u64 (lo4 : Int))).setCell ⟨qb, 1, none⟩ (.slice ta4 tn4 tc4)) g lv l r1) := RD.out.kept KSC (fun e => by omega) (fun j hj e => by have := HLQ.out j hj; omega)
              have K9 : Hid (Kept (fun i => i = g ∨ i = qb) wr ((wd.setCell ⟨qb, 0, none⟩ (.int .u64 (lo4 : Int))).setCell ⟨qb, 1, none⟩ (.slice ta4 tn4 tc4))) := KD.out.trans KSC (fun _ _ h => Or.inl h) (fun _ _ h => Or.inr h)
              have HPU := Lib.hid hput
              clear hput KSC b1 b2 b3 b4 b5 b6 b7 b8
              generalize (wd.setCell ⟨qb, 0, none⟩ (.int .u64 (lo4 : Int))).setCell ⟨qb, 1, none⟩ (.slice ta4 tn4 tc4) = w9 at HPU R9 K9 ⊢
              go_wp2_with fail
              refine (HAC.out _ R9.out).mono ?_
              rintro e wf ⟨rfl, rf, kf⟩
              have RF := Lib.hid rf; have KF := Lib.hid kf
              clear rf kf
              go_wp2_with fail
              refine (HER.out _ RF.out).mono ?_
              rintro e wh ⟨rfl, kh⟩
              have KH := Lib.hid kh
              have RH := Lib.hid (RF.out.stay kh)
              clear kh
              have HREL := Lib.hid (HRE2.out wh (lo4, .slice ta4 tn4 tc4) RH.out ((HPU.out.kept KF.out (fun e => by omega) (fun j hj e => by have := HB4.out j hj; omega)).stay KH.out) HB4.out ((K9.out.trans KF.out (T := fun i => i = g ∨ i = qb) (fun _ _ h => h) (fun _ _ h => Or.inl h)).trans KH.out (fun _ _ h => h) (fun _ _ h => h.elim)))
              have HMEA := Lib.hid (HME.out wh RH.out)
              go_wp2_with fail
              go_roundw
              case rel => exact HREL
              case measure => exact HMEA.out
      case true =>
        go_wp2_with fail
        refine (HCO.out _ (HM.out.kept (KW.out.then K4.out))).mono ?_
        rintro e w4b ⟨rfl, k4b⟩
        replace K4 := Lib.hid (K4.out.then k4b)
        clear k4b
        have HRE := Lib.hid HSD.out.2
        have hls := scanS_len tc
        have HLN := Lib.hid (show (scanS tc).1.length ≤ 1000 by omega)
        have H1 := Lib.hid (fun W hW => tscan_any tc W (by omega) hW)
        have h2 := HSD.out.1
        obtain ⟨R, hR⟩ : ∃ R, R = scanS tc := ⟨_, rfl⟩
        rw [← hR] at HRE HLN h2
        simp only [← hR] at H1
        obtain ⟨l, o2⟩ := R
        simp only at HRE HLN h2 H1
        subst h2
        simp only at H1
        clear hR hls HSC HSD HCO
        go_wp2_with fail
        refine (H1.out _ (HS.out.kept (KW.out.then K4.out) (fun h => h))).mono ?_
        rintro e w5 ⟨v5, rfl, o5, k5⟩
        have T5 := Lib.hid o5.toks
        have K5 := Lib.hid (K4.out.then k5)
        clear k5 K4 H1
        obtain ⟨la, lc, rfl, zz1, zz2⟩ := o5.form
        clear o5
        go_wp2_with fail
        refine (newRd_any _ l w5 T5.out (by have := HLN.out; omega)).mono ?_
        rintro e w6 ⟨g, lv, rfl, r6, hg6, hlv6, k6⟩
        have R6 := Lib.hid r6
        have K6 := Lib.hid (K5.out.then k6)
        have hg5 : wr.heap.size ≤ w5.heap.size := K5.out.size
        clear k6 K5
        go_wp2_with fail
        refine (of_nil w6).mono ?_
        rintro e w7 ⟨rfl, k7⟩
        have R7 := Lib.hid (R6.out.stay k7)
        have hg7 := R6.out.lt
        have K7 := Lib.hid (K6.out.then k7)
        have hs7 := k7.size
        clear k7 K6
        go_wp2_with fail
        have HB7 := Lib.hid (box_newT w7)
        have R8 : Hid (RdP (w7.alloc (.cells #[.int .u64 0, .slice none 0 0] 27)) g lv l ⟨0, 0, 0⟩) := R7.out.stay (Kept.alloc _ _ _)
        have hq1 : w7.heap.size < (w7.alloc (.cells #[.int .u64 0, .slice none 0 0] 27)).heap.size := by simp
        have K8 : Hid (Kept (fun _ => False) wr (w7.alloc (.cells #[.int .u64 0, .slice none 0 0] 27))) := K7.out.then (Kept.alloc _ _ _)
        have hgq : g < w7.heap.size := Nat.lt_of_lt_of_le hg7 hs7
        have hlq : ∀ k, lv.ownBlock = some k → k < w7.heap.size := fun k hk => Nat.lt_of_lt_of_le (R6.out.row.lt k hk) hs7
        generalize w7.alloc (.cells #[.int .u64 0, .slice none 0 0] 27) = w8 at HB7 R8 hq1 K8 ⊢
        generalize w7.heap.size = qb at *
        have HOU : Hid (OutT g qb lv l M w8 w8) := ⟨⟨0, 0, 0⟩, ns0, 0, (0, .slice none 0 0), R8.out, rfl, HRE.out, HNS.out, HFO.out, HB7.out, zero_small, fun j hj => absurd hj (no_blkT j), Kept.refl _ _⟩
        have HLQ := Lib.hid hlq
        clear hlq hlv6 R6 R7 R8 HB7 K7
        obtain ⟨wo, rfl⟩ : ∃ wo : World, wo = wr := ⟨_, rfl⟩
        go_loopw [] (fun wr => Hid (OutT g qb lv l M w8 wr)) (fun wr => l.length - nxW wr g)
        case atStart => exact HOU
        case round =>
          obtain ⟨r, ns, KK, ⟨lo2, hv2⟩, hrd, her, hre, hns, hfo, hbx, hsm, hbl, hkk⟩ := hrel.out
          obtain ⟨lo3, ta, tn, tcp, hform2⟩ := hbx.set.form
          obtain ⟨rfl, rfl⟩ : lo2 = lo3 ∧ hv2 = .slice ta tn tcp := by
            simp [pairT] at hform2
            exact ⟨by omega, hform2.2⟩
          have HRD := Lib.hid hrd; have HBB := Lib.hid hbx; have HBL := Lib.hid hbl; have HKK := Lib.hid hkk
          have HPK := Lib.hid hrd.peek
          have hm := nxW_rd hrd
          cases ns with
          | nil =>
            have hp0 := rest_end her hre
            generalize peekS l r = pk at HPK hp0
            obtain ⟨pk0, pk1, pk2, pk3⟩ := pk
            simp only at hp0
            subst hp0
            have hfo2 : KK = M := hfo
            subst hfo2
            have hx1 := HBX.out.stay K8.out
            have hx2 := hx1.kept hkk (fun e => by rcases e with e | e <;> omega) (fun j hj e => by have := setv_ltT HBX.out.set j hj; rcases e with e | e <;> omega)
            have HE := Lib.hid (fun W (k : Kept (fun _ => False) wr W) => equal_any W _ _ KK KK (hbx.stay k).set (hx2.stay k).set)
            have HZ : Hid (∀ W, Kept (fun _ => False) wr W → Kept (fun _ => False) w W) := fun W k => ((KW.out.then K8.out).trans hkk (T := fun _ => False) (fun _ _ h => h) (fun i hi e => by have := KW.out.size; rcases e with e | e <;> omega)).then k
            have HB1 := Lib.hid (fun W (k : Kept (fun _ => False) wr W) => (hbx.stay k).c0)
            have HB2 := Lib.hid (fun W (k : Kept (fun _ => False) wr W) => (hbx.stay k).c1)
            have HB3 := Lib.hid (fun W (k : Kept (fun _ => False) wr W) => (hx2.stay k).c0)
            have HB4 := Lib.hid (fun W (k : Kept (fun _ => False) wr W) => (hx2.stay k).c1)
            clear hrd her hre hns hfo hbx hsm hbl hkk hx1 hx2 hform2 hrel hm
            go_wp2_with fail
            refine HPK.out.mono ?_
            rintro e wa ⟨rfl, ka⟩
            have KA := Lib.hid ka
            have b1 := HB1.out wa ka; have b2 := HB2.out wa ka; have b3 := HB3.out wa ka; have b4 := HB4.out wa ka
            clear ka
            simp only [tkV]
            have hfd : ∀ W : World, (Instr.field 42 (.agg #[.int .u8 0, .string pk1, .int .i64 pk2, .int .i64 pk3]) 0).run Tryz.prog W = .ok (.int .u8 0) W := fun _ => by kernel_rfl
            go_wp2_with fail
            refine (HE.out wa KA.out).mono ?_
            rintro e wb ⟨rfl, kb⟩
            have KB := Lib.hid (HZ.out wb (KA.out.then kb))
            clear kb b1 b2 b3 b4
            go_wp2_with fail
            go_ret
            exact ⟨by simp, KB.out⟩
          | cons n ns =>
            have hn4 := hns n (by simp)
            obtain ⟨hp0, hnu, r2, hac, her2, hlt2, hle2, hre2⟩ := rest_step her hre hn4
            have HNU := Lib.hid (fun W (k : Kept (fun _ => False) wr W) => (hrd.stay k).number 0 4095)
            rw [hnu] at HNU
            generalize peekS l r = pk at HPK hp0
            obtain ⟨pk0, pk1, pk2, pk3⟩ := pk
            simp only at hp0
            subst hp0
            obtain ⟨r1, hr1⟩ : ∃ r1, r1 = (numS15 l r 0 4095).1 := ⟨_, rfl⟩
            rw [← hr1] at HNU hac
            have HAC := Lib.hid (fun W (h : RdP W g lv l r1) => h.accept ⟨#[44]⟩)
            rw [hac] at HAC
            have HER := Lib.hid (fun W (h : RdP W g lv l r2) => h.errs)
            rw [her2] at HER
            have HC0 := Lib.hid (fun W (k : Kept (fun i => i = g) wr W) => hbx.kept k (fun e => by omega) (fun j hj e => by have := hbl j hj; omega))
            have HRE2 : Hid (∀ W p, RdP W g lv l r2 → BoxT W qb p (KK ||| 2 ^ n) → (∀ j, setBlk (pairT p) j → w8.heap.size ≤ j) → Kept (fun i => i = g ∨ i = qb) wr W → OutT g qb lv l M w8 W) := fun W p q1 q2 q3 q4 =>
              ⟨r2, ns, KK ||| 2 ^ n, p, q1, her2, hre2, fun x hx => hns x (List.mem_cons_of_mem _ hx), hfo, q2, small_with hsm hn4, q3, hkk.trans q4 (fun _ _ h => h) (fun _ _ h => h)⟩
            have HWT : Hid (∀ W, Kept (fun i => i = g) wr W → Calls Tryz.prog 6 #[.agg #[.int .u64 (lo2 : Int), .slice ta tn tcp], .int .i64 n] W fun e w' => ∃ v', e = .returned v' ∧ SetV w' v' (KK ||| 2 ^ n) ∧ (∀ k, setBlk v' k → setBlk (pairT (lo2, .slice ta tn tcp)) k ∨ W.heap.size ≤ k) ∧ Kept (fun _ => False) W w') := fun W k => with_any W _ KK n (HC0.out W k).set hsm hn4
            have HSM := Lib.hid hsm
            have hwq : w8.heap.size ≤ wr.heap.size := hkk.size
            have HME : Hid (∀ W, RdP W g lv l r2 → l.length - nxW W g < l.length - nxW wr g) := fun W q => by rw [hm, nxW_rd q]; omega
            clear hrd her hre hns hfo hbx hsm hbl hkk hform2 hrel hm hac her2 hre2 hnu hr1
            have l0 : (0 : Int) ≤ (n : Int) := by omega
            have l1 : (n : Int) ≤ 4095 := by omega
            go_wp2_with fail
            refine HPK.out.mono ?_
            rintro e wa ⟨rfl, ka⟩
            have KA := Lib.hid ka
            have hba := HC0.out wa (ka.mono (fun _ _ h => h.elim))
            have b1 := hba.c0; have b2 := hba.c1
            clear ka hba
            simp only [tkV]
            have hfd : ∀ W : World, (Instr.field 42 (.agg #[.int .u8 2, .string pk1, .int .i64 pk2, .int .i64 pk3]) 0).run Tryz.prog W = .ok (.int .u8 2) W := fun _ => by kernel_rfl
            go_wp2_with fail
            go_region_with ((first | (go_at_call 13; refine (HNU.out _ (by first | exact KA.out.drew | exact KA.out | exact KA.out.drewN _)).mono ?_; rintro e wb ⟨rfl, rb, kb⟩; have RB := Lib.hid rb; have KB : Hid (Kept (fun i => i = g) wr wb) := Kept.trans (T := fun i => i = g) (show Kept (fun _ => False) wr _ from by first | exact KA.out.drew | exact KA.out | exact KA.out.drewN _) kb (fun _ _ h => h.elim) (fun _ _ h => h); have hbb := HC0.out wb KB.out; have b3 := hbb.c0; have b4 := hbb.c1; clear rb kb hbb) | (go_at_call 6; refine (HWT.out _ (by first | exact KB.out | exact KB.out.drew)).mono ?_; rintro e wd ⟨v', rfl, hset', hblk', kd⟩; obtain ⟨lo4, ta4, tn4, tc4, rfl⟩ := hset'.form; have KD : Hid (Kept (fun i => i = g) wr wd) := Kept.trans (T := fun i => i = g) KB.out kd (fun _ _ h => h) (fun _ _ h => h.elim); have KBD := Lib.hid kd; have hbd := HC0.out wd KD.out; have b5 := hbd.c0; have b6 := hbd.c1; have b7 := hbd.f0; have b8 := hbd.f1; have HBD := Lib.hid hbd; have HST := Lib.hid hset'; have RD : Hid (RdP wd g lv l r1) := (by first | exact RB.out.stay kd | exact (RB.out.stay (Kept.refl _ _).drew).stay kd); have HB4 : Hid (∀ j, setBlk (pairT (lo4, .slice ta4 tn4 tc4)) j → w8.heap.size ≤ j) := (fun j hj => (hblk' j hj).elim (fun h => HBL.out j h) (fun h => Nat.le_trans hwq (Nat.le_trans KB.out.size h))); clear hset' hblk' kd hbd)))
            all_goals
              have hput := HBD.out.put (q := (lo4, .slice ta4 tn4 tc4)) HST.out (fun j hj => by have := HB4.out j hj; omega)
              have KSC : Kept (fun k => k = qb) wd ((wd.setCell ⟨qb, 0, none⟩ (.int .u64 (lo4 : Int))).setCell ⟨qb, 1, none⟩ (.slice ta4 tn4 tc4)) := (Kept.setCell (fun k => k = qb) wd ⟨qb, 0, none⟩ _ rfl).trans (Kept.setCell (fun k => k = qb) _ ⟨qb, 1, none⟩ _ rfl) (fun _ _ h => h) (fun _ _ h => h)
              have R9 : Hid (RdP ((wd.setCell ⟨qb, 0, none⟩ (.int .u64 (lo4 : Int))).setCell ⟨qb, 1, none⟩ (.slice ta4 tn4 tc4)) g lv l r1) := RD.out.kept KSC (fun e => by omega) (fun j hj e => by have := HLQ.out j hj; omega)
              have K9 : Hid (Kept (fun i => i = g ∨ i = qb) wr ((wd.setCell ⟨qb, 0, none⟩ (.int .u64 (lo4 : Int))).setCell ⟨qb, 1, none⟩ (.slice ta4 tn4 tc4))) := KD.out.trans KSC (fun _ _ h => Or.inl h) (fun _ _ h => Or.inr h)
              have HPU := Lib.hid hput
              clear hput KSC b1 b2 b3 b4 b5 b6 b7 b8
              generalize (wd.setCell ⟨qb, 0, none⟩ (.int .u64 (lo4 : Int))).setCell ⟨qb, 1, none⟩ (.slice ta4 tn4 tc4) = w9 at HPU R9 K9 ⊢
              go_wp2_with fail
              refine (HAC.out _ R9.out).mono ?_
              rintro e wf ⟨rfl, rf, kf⟩
              have RF := Lib.hid rf; have KF := Lib.hid kf
              clear rf kf
              go_wp2_with fail
              refine (HER.out _ RF.out).mono ?_
              rintro e wh ⟨rfl, kh⟩
              have KH := Lib.hid kh
              have RH := Lib.hid (RF.out.stay kh)
              clear kh
              have HREL := Lib.hid (HRE2.out wh (lo4, .slice ta4 tn4 tc4) RH.out ((HPU.out.kept KF.out (fun e => by omega) (fun j hj e => by have := HB4.out j hj; omega)).stay KH.out) HB4.out ((K9.out.trans KF.out (T := fun i => i = g ∨ i = qb) (fun _ _ h => h) (fun _ _ h => Or.inl h)).trans KH.out (fun _ _ h => h) (fun _ _ h => h.elim)))
              have HMEA := Lib.hid (HME.out wh RH.out)
              go_wp2_with fail
              go_roundw
              case rel => exact HREL
              case measure => exact HMEA.out
end Go.Proofs.YtoekdcobnmkpaaaGreatDoor
/-
  From TokenSets' condition to what its walk asks for: the library's tables, the number that bytealg keeps.
-/
namespace Go.Proofs.YtoekdcobnmkpaaaGreatDoor
open Go.ChangeShapes Go.WideShapes Go.ChangeAt Go.RowKit
set_option maxRecDepth 100000

def tabZ : List Int := Lib.deBruijn64tab.map fun n : Nat => (n : Int)
theorem d_tz : (Rows.laid_math_bits_deBruijn64tab : DataW Unit) = Lib.tabData .u8 tabZ := by kernel_rfl
theorem d_pow : (Rows.laid_internal_strconv_uint64pow10 : DataW Unit) = Lib.tabData .u64 Lib.pow10Tab := by kernel_rfl
theorem tabIs_of_reads {P : Program} {W : World} {name : String} {k : IntKind} {zs : List Int} {g : Nat} {t e : TypeId} {n : Nat}
    (hg : P.globalNamed name = some g) (hty : (P.globals[g]?).map (·.type) = some t) (ht : P.underlying t = some (.array n e)) (he : P.underlying e = some (.int k)) (hce : P.cellsOf e = 1) (hct : P.cellsOf t = n)
    (h : Lib.VarReads P W name (Lib.tabData k zs)) : Lib.TabIs P W name k zs := by
  obtain ⟨g', t', cs, fuel, p, hg', ht', hvar, hd⟩ := h
  obtain rfl := Option.some.inj (hg.symm.trans hg')
  obtain rfl := Option.some.inj (hty.symm.trans ht')
  unfold Lib.TabIs
  rw [hvar, ← Lib.cells_of_tab ht he hce hct hd]
theorem gTz : Tryz.prog.globalNamed "math/bits.deBruijn64tab" = some 3 := by kernel_rfl
theorem tabs_of_laid {W : World} (h : laidMetH Tryz.prog laidB W) : Tz W ∧ Lib.TabBelow Tryz.prog W.heap.size W "internal/strconv.uint64pow10" .u64 Lib.pow10Tab := by
  rw [MakeChecks.laidMetH_plain _ _ _ (by kernel_rfl)] at h
  have r1 : Lib.VarReads Tryz.prog W "math/bits.deBruijn64tab" (Lib.tabData .u8 tabZ) := d_tz ▸ Lib.laidMet.reads h (.tail _ (.head _))
  have r2 : Lib.VarReads Tryz.prog W "internal/strconv.uint64pow10" (Lib.tabData .u64 Lib.pow10Tab) := d_pow ▸ Lib.laidMet.reads h (.tail _ (.tail _ (.head _)))
  have t1 := tabIs_of_reads gTz (t := 110) (by kernel_rfl) Tryz.underlying110 Tryz.underlying5 (by kernel_rfl) (by kernel_rfl) r1
  have hl : tabZ.length = 64 := by kernel_rfl
  have hl2 : Lib.deBruijn64tab.length = 64 := by kernel_rfl
  have hc : ∀ i, i < 64 → W.cell? ⟨3, i, none⟩ = some (.int .u8 (Lib.deBruijn64tab.getD i 0 : Nat)) := fun i hi => by
    rw [t1.cell gTz i (by omega)]
    have hi2 : i < Lib.deBruijn64tab.length := by omega
    simp [tabZ, List.getD, hi2]
  exact ⟨⟨World.block_lt_of_cell? W _ (hc 0 (by omega)), fun j hj => hc j (by omega)⟩,
    Lib.tabBelow_of_tabIs (tabIs_of_reads (g := 5) (by kernel_rfl) (t := 121) (by kernel_rfl) Tryz.underlying121 Tryz.underlying24 (by kernel_rfl) (by kernel_rfl) r2)⟩
theorem max_of_shaped {W : World} (h : W.ShapedOpen Tryz.prog) : MaxAt W := by
  obtain ⟨m, hm⟩ := cell_of_shapedOpen_int (P := Tryz.prog) (g := 4) (t := 3) (zero := #[.int .i64 0]) h (of_decide_eq_true (by kernel_rfl)) (by kernel_rfl) rfl (by kernel_rfl) (by kernel_rfl) Tryz.underlying3
  exact ⟨m, hm⟩
end Go.Proofs.YtoekdcobnmkpaaaGreatDoor
