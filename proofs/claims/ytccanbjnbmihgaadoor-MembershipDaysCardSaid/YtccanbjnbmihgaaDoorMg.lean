/- The first texts of this claim, one behind the other. -/
import Derived.Test.YtccanbjnbmihgaaDoorBTz
import Derived.Test.YtccanbjnbmihgaaDoorBSeq
import Derived.Test.YtccanbjnbmihgaaDoorOf
import Derived.Laws.BitsAllLaws
import Derived.BigQuiet
import Derived.Deep.RegionHeld3
import Derived.Deep.DrawnRows
import Derived.Laws.MakeOwn
import Derived.Test.YtccanbjnbmihgaaDoorBTxL
import Derived.Laws.IdiomStrings
import Derived.Test.YtccanbjnbmihgaaDoorMbO
import Derived.Test.YtccanbjnbmihgaaDoorMbW
import Derived.Test.YtccanbjnbmihgaaDoorMbY
import Derived.Test.YtccanbjnbmihgaaDoorMbZ
import Derived.Test.YtccanbjnbmihgaaDoorCore
import Derived.Test.YtccanbjnbmihgaaDoorRows
import Derived.Outline
import Derived.WalkLawsBesides
import Derived.WalkSpells
import Derived.IntWalk
import Derived.ProofKit
import Derived.Lib.LaidTab
import Derived.Lib.LaidU8
import Derived.Lay
import Derived.LaidMore
import Derived.LaidLaws
import Derived.MakeChecks
import Derived.OpenShut
import Derived.ChangeOld
import Derived.Below
import Derived.Stop.Joined
import Derived.Test.YtccanbjnbmihgaaDoorMbR
import Derived.Test.YtccanbjnbmihgaaDoorMbU
import Derived.Test.YtccanbjnbmihgaaDoorMbF
import Derived.Test.YtccanbjnbmihgaaDoorMbA
import Derived.Laws.StructEq
import Derived.Deep.QuietTactic
import Derived.StillTailTactics
import Derived.Test.YtccanbjnbmihgaaDoorBOpM
import Derived.Test.YtccanbjnbmihgaaDoorBWith
import Derived.Deep.AppendLies
import Derived.Maps.AppendAt
import Derived.BigRegion
import Derived.Test.YtccanbjnbmihgaaDoorShelf
import Derived.Test.YtccanbjnbmihgaaDoorMake
import Derived.Test.YtccanbjnbmihgaaDoorBHas
import Derived.Test.YtccanbjnbmihgaaDoorBRm
import Derived.ChangeMaps5
import Derived.Lib.SmallJoins
import Derived.Deep.Slices
/-
  bits.Set.All: the members come in ascending order, one by one, as far as the consumer asks.
-/
namespace Go.Proofs.YtccanbjnbmihgaaDoor
open Go.RowKit Go.Shelf
attribute [local go_sem] Oper.semAt_some

theorem kept_grown {a b : World} (h : Kept (fun _ => False) a b) : a.grownBy b none :=
  ⟨h.os, h.tape, h.output, h.size, fun k hk _ => h.block k hk (fun h => h)⟩

/-- What the iterator reads: the set in its box, its words, the library's table. -/
structure AllAt (W : World) (B : Nat) (M : Nat) (hv : Value) (hs : List Nat) : Prop where
  c0 : W.cell? ⟨B, 0, none⟩ = some (.int .u64 (M % 2 ^ 64 : Nat))
  c1 : W.cell? ⟨B, 1, none⟩ = some hv
  words : Words W hv hs
  can : Canon hs (M / 2 ^ 64)
  tz : Tz W
theorem AllAt.kept {S : Nat → Prop} {a b : World} {B M : Nat} {hv : Value} {hs : List Nat} (h : AllAt a B M hv hs) (hk : Kept S a b) (h1 : ¬ S B) (h2 : ∀ k, hv.ownBlock = some k → ¬ S k) (h3 : ¬ S 0) : AllAt b B M hv hs := by
  have hB := World.block_lt_of_cell? a _ h.c0
  exact ⟨(hk.cell (p := ⟨B, 0, none⟩) hB h1).trans h.c0, (hk.cell (p := ⟨B, 1, none⟩) hB h1).trans h.c1, h.words.kept hk h2, h.can, h.tz.kept hk h3⟩
theorem AllAt.on {a b : World} {B M : Nat} {hv : Value} {hs : List Nat} (h : AllAt a B M hv hs) (hk : Kept (fun _ => False) a b) : AllAt b B M hv hs := h.kept hk (fun h => h) (fun _ _ h => h) (fun h => h)

/-- What a round's contract gives the iterator. -/
def RoundOf (l N : Nat) (Kp : World → World → Prop) (J Jx : List Int → World → Prop) : Prop :=
  ∀ pre x W, J pre W → pre.length < N → 0 ≤ x → x ≤ 4095 → YieldAt Fence.wide 1 Tryd.prog l #[Value.int .i64 x] W fun e W' =>
    (e = .returned (.bool true) ∧ J (pre ++ [x]) W' ∧ Kp W W') ∨ (e = .returned (.bool false) ∧ Jx (pre ++ [x]) W')

set_option maxRecDepth 100000 in
set_option maxHeartbeats 6400000 in
theorem all1_in (l B M : Nat) (va : Option Addr) (vc : Nat) (hs : List Nat) (Kp : World → World → Prop) (J Jx : List Int → World → Prop) (W : World)
    (hY : RoundOf l (memM M (64 * (1 + hs.length))).length Kp J Jx)
    (hKp : ∀ a b, Kp a b → AllAt a B M (.slice va hs.length vc) hs → AllAt b B M (.slice va hs.length vc) hs)
    (hJ : ∀ pre a b, W.heap.size ≤ a.heap.size → J pre a → Kept (fun _ => False) a b → J pre b)
    (hKs : ∀ a b, Kp a b → a.heap.size ≤ b.heap.size)
    (hA : AllAt W B M (.slice va hs.length vc) hs) (hl : hs.length ≤ 63) (h0 : J [] W) :
    CallsIn Fence.wide 2 Tryd.prog 86 #[.func (.yield l) #[] #[], .pointer (some ⟨B, 0, none⟩)] W fun e W' => (∃ v, e = .returned v) ∧
      ((∃ ys, ys = memM M (64 * (1 + hs.length)) ∧ J ys W') ∨ (∃ pre, pre <+: memM M (64 * (1 + hs.length)) ∧ Jx pre W')) := by
  obtain ⟨n, hn⟩ : ∃ n, n = hs.length := ⟨_, rfl⟩
  rw [← hn] at hY hKp hA hl ⊢
  have HN := Lib.hid hn
  clear hn
  have HY := Lib.hid hY; have HKP := Lib.hid hKp; have HJ := Lib.hid hJ; have HA := Lib.hid hA; have HKS := Lib.hid hKs
  have H0 : Hid (J (memM M (64 * 0)) W) := h0
  clear hY hKp hJ hA h0 hKs
  have c0 := HA.out.c0; have c1 := HA.out.c1
  obtain ⟨lo, hlo⟩ : ∃ lo, lo = M % 2 ^ 64 := ⟨_, rfl⟩
  rw [← hlo] at c0
  have HLO := Lib.hid hlo
  clear hlo
  refine callsIn_of_wp Tryd.func86 rfl trivial ?_ rfl
  simp only [Tryd.ntmps86, List.size_toArray, List.length_cons, List.length_nil, Nat.reduceAdd, Nat.reduceSub, Array.replicate_succ, Array.replicate_zero, List.push_toArray, List.append_toArray, List.nil_append, List.cons_append]
  gi_wp2_with (refine ⟨trivial, ?_⟩; gi_at_call 87; refine (callsIn_wide.2 (words_any _ lo n vc va (by omega))).mono ?_; rintro e w1 ⟨rfl, hk1⟩)
  have HA1 := Lib.hid (HA.out.on hk1)
  have H1 : Hid (J (memM M (64 * 0)) w1) := HJ.out _ _ _ (Nat.le_refl _) H0.out hk1
  have hs1 : W.heap.size ≤ w1.heap.size := hk1.size
  clear hk1 H0 HA c0 c1
  gi_loopw [7] (fun kv wr => ∃ k : Nat, k ≤ n + 1 ∧ kv = .int .i64 k ∧ W.heap.size ≤ wr.heap.size ∧ Hid (AllAt wr B M (.slice va n vc) hs) ∧ Hid (J (memM M (64 * k)) wr)) (fun kv _ => n + 1 - (intOf kv).toNat)
  case atStart => exact ⟨0, by omega, rfl, hs1, HA1, H1⟩
  case round =>
    obtain ⟨k, hk, rfl, hsz, hat, hj⟩ := hrel
    clear HA1 H1
    by_cases hlt : k < n + 1
    · have l1 : (k : Int) < 1 + (n : Int) := by omega
      have c0 := hat.out.c0; have c1 := hat.out.c1
      rw [← HLO.out] at c0
      have hwd := wd_word M hs hat.out.can k
      rw [← HLO.out] at hwd
      have HWD := Lib.hid (word_any wr lo (.slice va n vc) hs k hat.out.words (by omega))
      change wd lo hs k = M / 2 ^ (64 * k) % 2 ^ 64 at hwd
      rw [hwd] at HWD
      have hy64 : M / 2 ^ (64 * k) % 2 ^ 64 < 2 ^ 64 := Nat.mod_lt _ (Nat.pow_pos (by omega))
      have hnx := fun t => memM_next (M := M) (k := k) (t := t)
      have hrs := fun t => memM_rest (M := M) (k := k) (t := t)
      have HNX := Lib.hid hnx; have HRS := Lib.hid hrs
      clear hwd hnx hrs
      obtain ⟨y, hy⟩ : ∃ y, y = M / 2 ^ (64 * k) % 2 ^ 64 := ⟨_, rfl⟩
      rw [← hy] at HWD hy64 HNX HRS
      clear hy
      obtain ⟨wo, hwo⟩ : ∃ wo : World, wo = wr := ⟨_, rfl⟩
      rw [← hwo] at hsz hat hj c0 c1 HWD ⊢
      clear hwo
      gi_wp2_with (refine ⟨trivial, ?_⟩; gi_at_call 64; refine (callsIn_wide.2 HWD.out).mono ?_; rintro e w2 ⟨rfl, hk2⟩)
      have HA2 := Lib.hid (hat.out.on hk2)
      have H2 : Hid (J (memM M (64 * k + 0)) w2) := HJ.out _ _ _ hsz hj.out hk2
      have hs2 : W.heap.size ≤ w2.heap.size := Nat.le_trans hsz hk2.size
      clear hk2 hat hj c0 c1 HWD
      gi_loopw [4] (fun yv wr => ∃ t : Nat, t ≤ 64 ∧ yv = .int .u64 (cutW y t : Nat) ∧ W.heap.size ≤ wr.heap.size ∧ Hid (AllAt wr B M (.slice va n vc) hs) ∧ Hid (J (memM M (64 * k + t)) wr)) (fun yv _ => (intOf yv).toNat)
      case atStart => exact ⟨0, by omega, by rw [cutW_zero], hs2, HA2, H2⟩
      case round =>
        obtain ⟨t, ht, rfl, hsz, hat, hj⟩ := hrel
        clear HA2 H2
        by_cases hz : cutW y t = 0
        · have hrest := HRS.out t ht hz
          have HJ3 : Hid (J (memM M (64 * (k + 1))) wr) := by show J _ _; rw [hrest]; exact hj.out
          clear hrest hj
          rw [hz]
          clear hz
          gi_wp2
          go_roundw
          case rel => exact ⟨k + 1, by omega, by go_num, hsz, hat, HJ3⟩
          case measure => simp [intOf]; omega
        · obtain ⟨g1, g2, g3, g4⟩ := HNX.out t hz
          have hdec := cutW_dec hz _ g4
          have hple := memM_prefix M (a := 64 * k + Lib.ctz 64 (cutW y t) + 1) (b := 64 * (1 + n)) (by omega)
          have hlen := hple.length_le
          rw [g3, List.length_append, List.length_singleton] at hlen
          rw [g3] at hple
          have hcy := cutW_le y t
          have HL := Lib.hid (fun (w : World) (h : Tz w) => leastIn_any (cutW y t) k (by omega) (by omega) (by omega) w h)
          have HTZ := Lib.hid hat.out.tz
          have HP := Lib.hid hple
          generalize Lib.ctz 64 (cutW y t) = j at g1 g2 g3 g4 hdec hlen HL HP
          obtain ⟨x, hx⟩ : ∃ x : Nat, x = 64 * k + j := ⟨_, rfl⟩
          rw [← hx] at g3 HL HP
          have HJ := Lib.hid hj.out; have HAT := Lib.hid hat.out
          obtain ⟨fn, tmps, assign, body, hy, hR⟩ := HY.out (memM M (64 * k + t)) (x : Int) wr hj.out (by omega) (by omega) (by omega)
          have HG3 := Lib.hid g3
          obtain ⟨W2, hW2⟩ : ∃ w, w = cutW y (j + 1) := ⟨_, rfl⟩
          have HW2 := Lib.hid hW2
          rw [← hW2] at g4 hdec
          generalize cutW y t = Wd at g4 hdec hcy HL hz ⊢
          have hzb : ((Wd : Int) != 0) = true := by simp; omega
          obtain ⟨Wm, hWm⟩ : ∃ m, m = Wd - 1 := ⟨_, rfl⟩
          have hsub : IntKind.u64.wrap ((Wd : Int) - 1) = (Wm : Int) := by rw [IntWalk.u64_in _ (by omega)]; omega
          have hand : bits .and .u64 (Wd : Int) (Wm : Int) = (W2 : Int) := by rw [hWm, u64_and_nat _ _ (by omega) (by omega), g4]
          have hand2 : bits .and .u64 (Wd : Int) ((Wd : Int) - 1) = (W2 : Int) := by rw [← hand]; congr 1; omega
          have hHD := Lib.hid hdec
          have HX0 := Lib.hid hx
          clear hj hat g3 hW2 g4 hdec hWm hlen hz hcy hx
          gi_wp2_with (refine ⟨trivial, ?_⟩; gi_at_call 88; refine (callsIn_wide.2 (HL.out wr HTZ.out)).mono ?_; rintro e w4 ⟨rfl, rfl⟩)
          refine hR.mono ?_
          rintro e W3 (⟨rfl, hJ3, hk3⟩ | ⟨rfl, hJx3⟩)
          · have HA3 := Lib.hid (HKP.out _ _ hk3 HAT.out)
            have HJ3 : Hid (J (memM M (64 * k + (j + 1))) W3) := by show J _ _; rw [← Nat.add_assoc, ← HX0.out, HG3.out]; exact hJ3
            have hs3 : W.heap.size ≤ W3.heap.size := Nat.le_trans hsz (HKS.out _ _ hk3)
            clear hJ3 hk3 hy hR
            gi_wp2
            go_roundw
            case rel => exact ⟨j + 1, by omega, by rw [← HW2.out], hs3, HA3, HJ3⟩
            case measure => have := hHD.out; simp [intOf]; omega
          · have HX := Lib.hid hJx3
            clear hJx3 hy hR
            gi_wp2
            refine bodyPost_ret (results_none rfl _ _ _) rfl ?_
            exact ⟨⟨_, rfl⟩, .inr ⟨memM M (64 * k + t) ++ [(x : Int)], HP.out, HX.out⟩⟩
    · have hkn : k = 1 + n := by omega
      have HJ4 := Lib.hid hj.out
      rw [hkn] at HJ4
      have l2 : ¬ (k : Int) < 1 + (n : Int) := by omega
      clear hj hat hkn
      gi_wp2
      go_end0
      first | exact ⟨⟨_, rfl⟩, .inl ⟨_, rfl, HJ4.out⟩⟩ | exact ⟨⟨_, rfl⟩, .inl HJ4.out⟩ | exact .inl HJ4.out
end Go.Proofs.YtccanbjnbmihgaaDoor
/-
  math/bits.OnesCount64: what it computes, step by step.
-/
namespace Go.Proofs.YtccanbjnbmihgaaDoor
open Go.RowKit

/-- What OnesCount64 computes. -/
def pop1 (x : Nat) : Nat := (x / 2 &&& 6148914691236517205) + (x &&& 6148914691236517205)
def pop2 (x : Nat) : Nat := (x / 4 &&& 3689348814741910323) + (x &&& 3689348814741910323)
def pop3 (x : Nat) : Nat := (x / 16 + x) &&& 1085102592571150095
def popS (x : Nat) : Nat :=
  (pop3 (pop2 (pop1 x)) + pop3 (pop2 (pop1 x)) / 256 + (pop3 (pop2 (pop1 x)) + pop3 (pop2 (pop1 x)) / 256) / 65536 + (pop3 (pop2 (pop1 x)) + pop3 (pop2 (pop1 x)) / 256 + (pop3 (pop2 (pop1 x)) + pop3 (pop2 (pop1 x)) / 256) / 65536) / 4294967296) &&& 127
theorem popS_le (x : Nat) : popS x ≤ 127 := Nat.and_le_right

set_option maxRecDepth 100000 in
set_option maxHeartbeats 1600000 in
theorem ones_any (x : Nat) (hx : x < 18446744073709551616) (w : World) : Calls Tryd.prog 85 #[.int .u64 x] w fun e w' => e = .returned (.int .i64 (popS x : Nat)) ∧ w = w' := by
  obtain ⟨a1, ha1⟩ : ∃ a, a = x / 2 &&& 6148914691236517205 := ⟨_, rfl⟩
  obtain ⟨b1, hb1⟩ : ∃ a, a = x &&& 6148914691236517205 := ⟨_, rfl⟩
  have la1 : a1 ≤ 6148914691236517205 := by rw [ha1]; exact Nat.and_le_right
  have lb1 : b1 ≤ 6148914691236517205 := by rw [hb1]; exact Nat.and_le_right
  obtain ⟨s1, hs1⟩ : ∃ a, a = a1 + b1 := ⟨_, rfl⟩
  obtain ⟨a2, ha2⟩ : ∃ a, a = s1 / 4 &&& 3689348814741910323 := ⟨_, rfl⟩
  obtain ⟨b2, hb2⟩ : ∃ a, a = s1 &&& 3689348814741910323 := ⟨_, rfl⟩
  have la2 : a2 ≤ 3689348814741910323 := by rw [ha2]; exact Nat.and_le_right
  have lb2 : b2 ≤ 3689348814741910323 := by rw [hb2]; exact Nat.and_le_right
  obtain ⟨s2, hs2⟩ : ∃ a, a = a2 + b2 := ⟨_, rfl⟩
  obtain ⟨q3, hq3⟩ : ∃ a, a = s2 / 16 + s2 := ⟨_, rfl⟩
  obtain ⟨s3, hs3⟩ : ∃ a, a = q3 &&& 1085102592571150095 := ⟨_, rfl⟩
  have ls3 : s3 ≤ 1085102592571150095 := by rw [hs3]; exact Nat.and_le_right
  obtain ⟨s4, hs4⟩ : ∃ a, a = s3 + s3 / 256 := ⟨_, rfl⟩
  obtain ⟨s5, hs5⟩ : ∃ a, a = s4 + s4 / 65536 := ⟨_, rfl⟩
  obtain ⟨s6, hs6⟩ : ∃ a, a = s5 + s5 / 4294967296 := ⟨_, rfl⟩
  obtain ⟨c, hc⟩ : ∃ a, a = s6 &&& 127 := ⟨_, rfl⟩
  have hfin : popS x = c := by
    have e3 : s3 = pop3 (pop2 (pop1 x)) := by
      rw [hs3, hq3, hs2, ha2, hb2, hs1, ha1, hb1]; rfl
    rw [hc, hs6, hs5, hs4, e3]; rfl
  rw [hfin]
  have hE : bits .and .u64 ((x : Int) / 2) 6148914691236517205 = (a1 : Int) ∧ bits .and .u64 (x : Int) 6148914691236517205 = (b1 : Int) ∧ IntKind.u64.wrap ((a1 : Int) + (b1 : Int)) = (s1 : Int) ∧
      bits .and .u64 ((s1 : Int) / 4) 3689348814741910323 = (a2 : Int) ∧ bits .and .u64 (s1 : Int) 3689348814741910323 = (b2 : Int) ∧ IntKind.u64.wrap ((a2 : Int) + (b2 : Int)) = (s2 : Int) ∧
      IntKind.u64.wrap ((s2 : Int) / 16 + (s2 : Int)) = (q3 : Int) ∧ bits .and .u64 (q3 : Int) 1085102592571150095 = (s3 : Int) ∧
      IntKind.u64.wrap ((s3 : Int) + (s3 : Int) / 256) = (s4 : Int) ∧ IntKind.u64.wrap ((s4 : Int) + (s4 : Int) / 65536) = (s5 : Int) ∧ IntKind.u64.wrap ((s5 : Int) + (s5 : Int) / 4294967296) = (s6 : Int) ∧
      IntKind.i64.wrap (s6 : Int) = (s6 : Int) ∧ bits .and .i64 (s6 : Int) 127 = (c : Int) := by
    refine ⟨?_, ?_, ?_, ?_, ?_, ?_, ?_, ?_, ?_, ?_, ?_, ?_, ?_⟩
    · rw [ha1]; have := u64_and_nat (x / 2) 6148914691236517205 (by omega) (by omega); exact this
    · rw [hb1]; have := u64_and_nat x 6148914691236517205 (by omega) (by omega); exact this
    · rw [IntWalk.u64_in _ (by omega)]; omega
    · rw [ha2]; have := u64_and_nat (s1 / 4) 3689348814741910323 (by omega) (by omega); exact this
    · rw [hb2]; have := u64_and_nat s1 3689348814741910323 (by omega) (by omega); exact this
    · rw [IntWalk.u64_in _ (by omega)]; omega
    · rw [IntWalk.u64_in _ (by omega)]; omega
    · rw [hs3]; have := u64_and_nat q3 1085102592571150095 (by omega) (by omega); exact this
    · rw [IntWalk.u64_in _ (by omega)]; omega
    · rw [IntWalk.u64_in _ (by omega)]; omega
    · rw [IntWalk.u64_in _ (by omega)]; omega
    · exact IntWalk.i64_in _ (by omega)
    · rw [hc]
      have h1 : (BitVec.ofInt 64 (s6 : Int)).toNat = s6 := by rw [BitVec.ofInt_natCast, BitVec.toNat_ofNat]; omega
      have h2 : s6 &&& 127 ≤ 127 := Nat.and_le_right
      show IntKind.i64.wrap ((BitVec.ofInt 64 (s6 : Int) &&& BitVec.ofInt 64 127).toNat : Int) = _
      rw [BitVec.toNat_and, h1, show (BitVec.ofInt 64 127).toNat = 127 from rfl]
      exact IntWalk.i64_in _ (by omega)
  clear ha1 hb1 la1 lb1 hs1 ha2 hb2 la2 lb2 hs2 hq3 hs3 ls3 hs4 hs5 hs6 hc hfin hx
  obtain ⟨e1, e2, e3, e4, e5, e6, e7, e8, e9, e10, e11, e12, e13⟩ := hE
  go_enter Tryd.func85, Tryd.ntmps85
  go_wp2_with fail
  go_ret
  exact ⟨rfl, rfl⟩
end Go.Proofs.YtccanbjnbmihgaaDoor
/-
  bits.Set.Equal: two sets are equal exactly if their numbers are.
-/
namespace Go.Proofs.YtccanbjnbmihgaaDoor
open Go.RowKit

theorem wl_inj {A B n : Nat} (hA : A < 2 ^ (64 * n)) (hB : B < 2 ^ (64 * n)) (h : wl A n = wl B n) : A = B := by
  refine Nat.eq_of_testBit_eq fun j => ?_
  by_cases hj : j < 64 * n
  · have h1 := congrArg (fun l => (l.getD (j / 64) 0).testBit (j % 64)) h
    simp only [wl_getD _ _ _ (show j / 64 < n by omega), Nat.testBit_mod_two_pow, Nat.testBit_div_two_pow] at h1
    have h2 : j % 64 < 64 := by omega
    have h3 : j % 64 + 64 * (j / 64) = j := by omega
    simpa [h2, h3] using h1
  · rw [Nat.testBit_lt_two_pow (Nat.lt_of_lt_of_le hA (Nat.pow_le_pow_right (by omega) (by omega))), Nat.testBit_lt_two_pow (Nat.lt_of_lt_of_le hB (Nat.pow_le_pow_right (by omega) (by omega)))]

theorem Canon.inj {hs : List Nat} {A B : Nat} (h : Canon hs A) (k : Canon hs B) : A = B :=
  wl_inj h.lt k.lt (h.eq.symm.trans k.eq)

theorem Canon.le {a b : List Nat} {M : Nat} (h : Canon a M) (k : Canon b M) : b.length ≤ a.length := by
  rcases k.last with e | e
  · omega
  · by_cases hl : b.length ≤ a.length
    · exact hl
    · exfalso
      refine e (Nat.div_eq_of_lt (Nat.lt_of_lt_of_le h.lt (Nat.pow_le_pow_right (by omega) (by omega))))

theorem Canon.uniq {a b : List Nat} {M : Nat} (h : Canon a M) (k : Canon b M) : a = b := by
  have hl : a.length = b.length := Nat.le_antisymm (k.le h) (h.le k)
  rw [h.eq, k.eq, hl]

/-- A row of words, cell by cell. -/
theorem words_form {w : World} {v : Value} {xs : List Nat} (h : Words w v xs) : ∃ a c, v = .slice a xs.length c ∧ xs.length ≤ maxLen ∧ ∀ i, i < xs.length → ∃ g off, a = some ⟨g, off, none⟩ ∧ g < w.heap.size ∧ w.cell? ⟨g, off + i, none⟩ = some (.int .u64 (xs.getD i 0 : Nat)) := by
  rcases h with ⟨h, h2⟩ | ⟨g, off, cap, h, h1, h3, h4, h5⟩
  · exact ⟨none, 0, by rw [h, h2]; rfl, by rw [h2]; simp, fun i hi => by rw [h2] at hi; simp at hi⟩
  · exact ⟨_, _, h, by omega, fun i hi => ⟨g, off, rfl, h4, h5 i hi⟩⟩

theorem take_eq_succ {xs ys : List Nat} {k : Nat} (h : xs.take k = ys.take k) (hx : k < xs.length) (hy : k < ys.length) (he : xs.getD k 0 = ys.getD k 0) : xs.take (k + 1) = ys.take (k + 1) := by
  rw [List.take_succ_eq_append_getElem hx, List.take_succ_eq_append_getElem hy, h]
  simp only [List.getD_eq_getElem?_getD, List.getElem?_eq_getElem hx, List.getElem?_eq_getElem hy, Option.getD_some] at he
  rw [he]

set_option maxRecDepth 100000 in
set_option maxHeartbeats 1600000 in
theorem equalw_any (w : World) (v u : Value) (xs ys : List Nat) (hv : Words w v xs) (hu : Words w u ys) :
    Calls Tryd.prog 67 #[v, u] w fun e w' => e = .returned (.bool (decide (xs = ys))) ∧ Kept (fun _ => False) w w' := by
  obtain ⟨a, c, rfl, hm, hx⟩ := words_form hv
  obtain ⟨a', c', rfl, hm', hy⟩ := words_form hu
  have HX := Lib.hid hx; have HY := Lib.hid hy
  clear hx hy hv hu
  have hm1 : xs.length ≤ 9223372036854775807 := by unfold maxLen at hm; omega
  obtain ⟨n, hn⟩ : ∃ n, n = xs.length := ⟨_, rfl⟩
  obtain ⟨m, hmm⟩ : ∃ m, m = ys.length := ⟨_, rfl⟩
  rw [← hn, ← hmm]
  by_cases hne : n = m
  · have hyl : ys.length = n := by omega
    subst hne
    clear hmm
    go_enter Tryd.func67, Tryd.ntmps67
    rw [← hn] at hm1
    have HN := Lib.hid hn; have HYL := Lib.hid hyl; clear hn hyl hm hm'
    go_wp2_with fail
    go_loopw [13] (fun iv wr => ∃ k : Nat, k ≤ n ∧ iv = .int .i64 k ∧ Hid (xs.take k = ys.take k) ∧ Kept (fun _ => False) w wr) (fun iv _ => n - (intOf iv).toNat)
    case atStart => exact ⟨0, Nat.zero_le _, rfl, rfl, Kept.refl _ _⟩
    case round =>
      obtain ⟨k, hk, rfl, ht, hkw⟩ := hrel
      by_cases hlt : k < n
      · have hlt' : (k : Int) < (n : Int) := by omega
        have hk0 : (0 : Int) ≤ (k : Int) := by omega
        obtain ⟨g, off, rfl, hg, hc⟩ := HX.out k (by rw [← HN.out]; exact hlt)
        obtain ⟨g', off', rfl, hg', hc'⟩ := HY.out k (by rw [HYL.out]; exact hlt)
        obtain ⟨x, hx⟩ : ∃ x, x = xs.getD k 0 := ⟨_, rfl⟩
        obtain ⟨y, hy⟩ : ∃ y, y = ys.getD k 0 := ⟨_, rfl⟩
        rw [← hx] at hc
        rw [← hy] at hc'
        have c1 := (hkw.cell (p := ⟨g, off + k, none⟩) hg (fun h => h)).trans hc
        have c2 := (hkw.cell (p := ⟨g', off' + k, none⟩) hg' (fun h => h)).trans hc'
        have HX1 := Lib.hid hx; have HY1 := Lib.hid hy; clear hx hy hc hc'
        by_cases hxy : x = y
        · subst hxy
          go_wp2_with fail
          go_quiet (fail)
          go_wp2_with fail
          go_roundw
          case rel => exact ⟨k + 1, by omega, by go_num, take_eq_succ ht.out (by rw [← HN.out]; exact hlt) (by rw [HYL.out]; exact hlt) (by rw [← HX1.out, ← HY1.out]), hkw.drewN _⟩
          case measure => simp [intOf]; omega
        · have hb : ((x : Int) == (y : Int)) = false := by simp; omega
          go_wp2_with fail
          go_quiet (fail)
          go_wp2_with fail
          go_ret
          refine ⟨?_, hkw.drewN _⟩
          have : decide (xs = ys) = false := by
            simp only [decide_eq_false_iff_not]
            intro e
            exact hxy (by rw [HX1.out, HY1.out, e])
          rw [this]; rfl
      · obtain rfl : k = n := by omega
        go_wp2_with fail
        go_ret
        refine ⟨?_, hkw⟩
        have h := ht.out
        rw [List.take_of_length_le (by rw [← HN.out]; exact Nat.le_refl _), List.take_of_length_le (by rw [HYL.out]; exact Nat.le_refl _)] at h
        rw [show decide (xs = ys) = true by simpa using h]; rfl
  · have hd : decide (xs = ys) = false := by
      simp only [decide_eq_false_iff_not]
      intro e
      exact hne (by rw [hn, hmm, e])
    rw [hd]
    have hb : ((n : Int) == (m : Int)) = false := by simp; omega
    clear hd hn hmm hm1 hm hm'
    go_enter Tryd.func67, Tryd.ntmps67
    go_wp2_with fail
    go_ret
    exact ⟨rfl, Kept.refl _ _⟩

set_option maxRecDepth 100000 in
set_option maxHeartbeats 800000 in
/-- 'Equal' of any two sets. -/
theorem equal_any (w : World) (v u : Value) (M K : Nat) (hv : SetV w v M) (hu : SetV w u K) :
    Calls Tryd.prog 34 #[v, u] w fun e w' => e = .returned (.bool (decide (M = K))) ∧ Kept (fun _ => False) w w' := by
  obtain ⟨a, hs, rfl, hw, hc, _⟩ := hv.ex
  obtain ⟨b, ks, rfl, hw', hc', _⟩ := hu.ex
  obtain ⟨l1, hl1⟩ : ∃ l, l = M % 2 ^ 64 := ⟨_, rfl⟩
  obtain ⟨l2, hl2⟩ : ∃ l, l = K % 2 ^ 64 := ⟨_, rfl⟩
  rw [← hl1, ← hl2]
  obtain ⟨a1, c1, hf1⟩ := hw.form
  obtain ⟨a2, c2, hf2⟩ := hw'.form
  have hE := fun (W : World) (hk : Kept (fun _ => False) w W) => equalw_any W a b hs ks (hw.kept hk (fun _ _ h => h)) (hw'.kept hk (fun _ _ h => h))
  have HE := Lib.hid hE; clear hE
  generalize hs.length = n1 at hf1
  generalize ks.length = n2 at hf2
  subst hf1 hf2
  have hka : Kept (fun _ => False) w ((w.alloc (.cells #[.int .u64 l1, .slice a1 n1 c1] 56)).alloc (.cells #[.int .u64 l2, .slice a2 n2 c2] 56)) := (Kept.alloc _ _ _).then (Kept.alloc _ _ _)
  have HKA := Lib.hid hka; clear hka
  by_cases hl : l1 = l2
  · have hd : decide (M = K) = decide (hs = ks) := by
      congr 1
      refine propext ⟨fun e => ?_, fun e => ?_⟩
      · subst e; exact hc.uniq hc'
      · subst e
        have h3 := hc.inj hc'
        have h1 := Nat.div_add_mod M (2 ^ 64)
        have h2 := Nat.div_add_mod K (2 ^ 64)
        rw [← h1, ← h2, h3, ← hl1, ← hl2, hl]
    rw [hd]
    clear hd hl1 hl2 hv hu hw hw' hc hc'
    subst hl
    go_enter Tryd.func34, Tryd.ntmps34
    go_wp2_with fail
    refine (HE.out _ HKA.out).mono ?_
    rintro e w1 ⟨rfl, hk⟩
    go_wp2_with fail
    go_ret
    exact ⟨rfl, HKA.out.then hk⟩
  · have hd : decide (M = K) = false := by
      simp only [decide_eq_false_iff_not]
      intro e
      exact hl (by rw [hl1, hl2, e])
    rw [hd]
    have hb : ((l1 : Int) == (l2 : Int)) = false := by simp; omega
    clear hd hl1 hl2 hv hu hw hw' hc hc' HE
    go_enter Tryd.func34, Tryd.ntmps34
    go_wp2_with fail
    go_ret
    exact ⟨rfl, HKA.out⟩

end Go.Proofs.YtccanbjnbmihgaaDoor
/-
  bits.Set.List: the members in ascending order.
-/
namespace Go.Proofs.YtccanbjnbmihgaaDoor
open Go.RowKit
attribute [local go_sem ↓] Go.wp_at_zero Go.wp_at_succ
set_option linter.unusedSimpArgs false

/-- What Len computes. -/
def lenS (M : Nat) (hs : List Nat) : Nat := popS (M % 2 ^ 64) + (hs.map popS).sum
theorem pop_sum (hs : List Nat) (k : Nat) (h : k < hs.length) : ((hs.take (k + 1)).map popS).sum = ((hs.take k).map popS).sum + popS (hs.getD k 0) := by
  rw [List.take_succ_eq_append_getElem h]
  simp only [List.map_append, List.map_cons, List.map_nil, List.sum_append, List.sum_cons, List.sum_nil, Nat.add_zero]
  congr 2
  simp [List.getD, h]
theorem pop_bound : ∀ hs : List Nat, (hs.map popS).sum ≤ 127 * hs.length
  | [] => by simp
  | x :: xs => by
    have := pop_bound xs
    have h := popS_le x
    rw [List.map_cons, List.sum_cons, List.length_cons]; omega

set_option maxRecDepth 100000 in
set_option maxHeartbeats 1600000 in
theorem len_any (w : World) (v : Value) (M : Nat) (hv : Value) (hs : List Nat) (hf : v = .agg #[.int .u64 (M % 2 ^ 64 : Nat), hv]) (hw : Words w hv hs) (hc : Canon hs (M / 2 ^ 64)) (hsm : hs.length ≤ 63) :
    Calls Tryd.prog 60 #[v] w fun e w' => e = .returned (.int .i64 (lenS M hs : Nat)) ∧ Kept (fun _ => False) w w' := by
  subst hf
  have hby : ∀ i, hs.getD i 0 < 2 ^ 64 := fun i => by
    by_cases hi : i < hs.length
    · rw [hc.eq, wl_getD _ _ _ hi]; exact Nat.mod_lt _ (Nat.pow_pos (by omega))
    · rw [List.getD_eq_getElem?_getD, List.getElem?_eq_none (by omega)]; exact Nat.pow_pos (by omega)
  obtain ⟨va, vc, hf, _, hx⟩ := words_form hw
  obtain ⟨n, hn⟩ : ∃ n, n = hs.length := ⟨_, rfl⟩
  rw [← hn] at hf hx hsm
  have hlo : M % 2 ^ 64 < 2 ^ 64 := Nat.mod_lt _ (Nat.pow_pos (by omega))
  have hLS : lenS M hs = popS (M % 2 ^ 64) + (hs.map popS).sum := rfl
  generalize M % 2 ^ 64 = lo at hlo hLS ⊢
  obtain ⟨R, hR⟩ : ∃ R, R = lenS M hs := ⟨_, rfl⟩
  rw [← hR] at hLS ⊢
  have HR := Lib.hid hLS; have HN := Lib.hid hn
  have hp0 := popS_le lo
  have HBD := Lib.hid (fun k : Nat => pop_bound (hs.take k))
  have HX := Lib.hid hx; have HBY := Lib.hid hby
  have HO := Lib.hid (fun (w : World) => ones_any lo (by omega) w)
  clear hw hc hx hn hby hlo hLS hR
  subst hf
  have KA := Lib.hid (Kept.alloc (fun _ => False) w (.cells #[.int .u64 lo, .slice va n vc] 56))
  go_enter Tryd.func60, Tryd.ntmps60
  go_wp2_with fail
  refine (HO.out _).mono ?_
  rintro e w1 ⟨rfl, rfl⟩
  go_wp2_with fail
  obtain ⟨p0, hp0e⟩ : ∃ p, p = popS lo := ⟨_, rfl⟩
  rw [← hp0e] at hp0 HR ⊢
  clear hp0e HO
  generalize w.alloc (.cells #[.int .u64 lo, .slice va n vc] 56) = wA at KA ⊢
  go_loop [3, 12] (fun sv iv => ∃ k s : Nat, k ≤ n ∧ iv = .int .i64 k ∧ s ≤ 127 * (k + 1) ∧ sv = .int .i64 s ∧ Hid (s = p0 + ((hs.take k).map popS).sum)) (fun _ iv => n - (intOf iv).toNat)
  case atStart => exact ⟨0, p0, by omega, rfl, by omega, rfl, by show p0 = p0 + _; simp⟩
  case round =>
    obtain ⟨k, s, hk, rfl, hs1, rfl, hsum⟩ := hrel
    by_cases hlt : k < n
    · have l1 : (k : Int) < (n : Int) := by omega
      have l0 : (0 : Int) ≤ (k : Int) := by omega
      obtain ⟨g, off, rfl, hg, hcell⟩ := HX.out k (by assumption)
      have hcell2 : wA.cell? ⟨g, off + k, none⟩ = _ := (KA.out.cell (p := ⟨g, off + k, none⟩) hg (fun h => h)).trans hcell
      have HO2 := Lib.hid (fun (w : World) => ones_any _ (HBY.out k) w)
      have hp := popS_le (hs.getD k 0)
      have hnext := pop_sum hs k (by have := HN.out; omega)
      have HNX := Lib.hid hnext
      clear hcell hnext
      generalize hs.getD k 0 = y at hcell2 HO2 hp HNX
      obtain ⟨c2, hc2⟩ : ∃ c, c = popS y := ⟨_, rfl⟩
      rw [← hc2] at HO2 hp HNX
      clear hc2
      go_wp2_with fail
      refine (HO2.out _).mono ?_
      rintro e w1 ⟨rfl, rfl⟩
      go_wp2_with fail
      go_round
      case rel => exact ⟨k + 1, s + c2, by omega, by go_num, by omega, by go_num, by show _ = _; rw [HNX.out, hsum.out]; omega⟩
      case measure => simp [intOf]; omega
    · have hRs : s = R := by rw [HR.out, hsum.out, List.take_of_length_le (by have := HN.out; omega)]
      have HRS := Lib.hid hRs
      clear hRs
      go_wp2_with fail
      go_ret
      exact ⟨congrArg (fun z : Nat => Ending.returned (Value.int .i64 (z : Int))) HRS.out, KA.out⟩
end Go.Proofs.YtccanbjnbmihgaaDoor
/-
  bits.Set.List: the members in ascending order.
-/
namespace Go.Proofs.YtccanbjnbmihgaaDoor
open Go.RowKit
attribute [local go_sem ↓] Go.wp_at_zero Go.wp_at_succ
set_option linter.unusedSimpArgs false

theorem AllAt.blocks {a b : World} {B M : Nat} {hv : Value} {hs : List Nat} (h : AllAt a B M hv hs) (hsz : a.heap.size ≤ b.heap.size) (h1 : b.heap[B]? = a.heap[B]?) (h2 : ∀ k, hv.ownBlock = some k → b.heap[k]? = a.heap[k]?) (h3 : b.heap[0]? = a.heap[0]?) : AllAt b B M hv hs := by
  refine ⟨(World.cell?_of_block (w := a) h1).trans h.c0, (World.cell?_of_block (w := a) h1).trans h.c1, ?_, h.can, ⟨Nat.lt_of_lt_of_le h.tz.lt hsz, fun j hj => (World.cell?_of_block (w := a) h3).trans (h.tz.tab j hj)⟩⟩
  rcases h.words with hw | ⟨g, off, cap, rfl, e1, e2, e3, e4⟩
  · exact Or.inl hw
  · exact Or.inr ⟨g, off, cap, rfl, e1, e2, Nat.lt_of_lt_of_le e3 hsz, fun i hi => (World.cell?_of_block (w := a) (h2 g rfl)).trans (e4 i hi)⟩

/-- The iterator's contract, for whoever keeps what it reads. -/
theorem all_stops (S : Nat → Prop) (M' B M : Nat) (va : Option Addr) (vc : Nat) (hs : List Nat) (w : World) (hA : AllAt w B M (.slice va hs.length vc) hs) (hl : hs.length ≤ 63) (hB : B < M') (hB2 : ¬ S B)
    (hw : ∀ k, (Value.slice va hs.length vc).ownBlock = some k → k < M' ∧ ¬ S k) (hg : 0 < M') (hg2 : ¬ S 0) :
    SeqStopsK Fence.wide 2 Tryd.prog 86 #[.pointer (some ⟨B, 0, none⟩)] (fun x : Int => #[Value.int .i64 x]) (KeepM S M') (fun ys => ys = memM M (64 * (1 + hs.length))) (fun pre => pre <+: memM M (64 * (1 + hs.length))) (memM M (64 * (1 + hs.length))).length w := by
  intro l J Jx W hW hJ hJx hY h0
  have hBlt := World.block_lt_of_cell? w _ hA.c0
  have hA2 : AllAt W B M (.slice va hs.length vc) hs := hA.on (Kept.ofBelow _ hW)
  refine all1_in l B M va vc hs (KeepM S M') J Jx W (fun pre x W1 h1 h2 _ _ => hY pre x W1 h1 h2) (fun a b hk ha => ?_) (fun pre a b _ hj hk => hJ pre a b none hj (kept_grown hk) (fun r e => by cases e)) (fun a b hk => hk.size) hA2 hl h0
  have h1 := World.block_lt_of_cell? a _ ha.c0
  refine ha.blocks hk.size (hk.block B hB h1 hB2) (fun k hk2 => ?_) (hk.block _ hg ha.tz.lt hg2)
  exact hk.block k (hw k hk2).1 (ha.words.lt k hk2) (hw k hk2).2

/-- A number that can be a member. -/
abbrev Mem : Type := {x : Int // 0 ≤ x ∧ x ≤ 4095}
/-- The iterator's contract, for a consumer who asks that what comes can be a member. -/
theorem all_stopsM (S : Nat → Prop) (M' B M : Nat) (va : Option Addr) (vc : Nat) (hs : List Nat) (w : World) (hA : AllAt w B M (.slice va hs.length vc) hs) (hl : hs.length ≤ 63) (hB : B < M') (hB2 : ¬ S B)
    (hw : ∀ k, (Value.slice va hs.length vc).ownBlock = some k → k < M' ∧ ¬ S k) (hg : 0 < M') (hg2 : ¬ S 0) :
    SeqStopsK Fence.wide 2 Tryd.prog 86 #[.pointer (some ⟨B, 0, none⟩)] (fun x : Mem => #[Value.int .i64 x.1]) (KeepM S M') (fun ys => ys.map (·.1) = memM M (64 * (1 + hs.length))) (fun pre => pre.map (·.1) <+: memM M (64 * (1 + hs.length))) (memM M (64 * (1 + hs.length))).length w := by
  intro l J Jx W hW hJ hJx hY h0
  have hBlt := World.block_lt_of_cell? w _ hA.c0
  have hA2 : AllAt W B M (.slice va hs.length vc) hs := hA.on (Kept.ofBelow _ hW)
  refine (all1_in l B M va vc hs (KeepM S M') (fun pre V => ∃ p : List Mem, p.map (·.1) = pre ∧ J p V) (fun pre V => ∃ p : List Mem, p.map (·.1) = pre ∧ Jx p V) W (fun pre x W1 h1 h2 h3 h4 => ?_) (fun a b hk ha => ?_)
    (fun pre a b _ hj hk => hj.imp fun p hp => ⟨hp.1, hJ p a b none hp.2 (kept_grown hk) (fun r e => by cases e)⟩) (fun a b hk => hk.size) hA2 hl ⟨[], rfl, h0⟩).mono ?_
  · obtain ⟨p, rfl, hp⟩ := h1
    obtain ⟨fn, tmps, assign, body, hy, hR⟩ := hY p ⟨x, h3, h4⟩ W1 hp (by simpa using h2)
    refine ⟨fn, tmps, assign, body, hy, hR.mono ?_⟩
    rintro e W' (⟨rfl, a, b⟩ | ⟨rfl, a⟩)
    · exact .inl ⟨rfl, ⟨p ++ [⟨x, h3, h4⟩], by rw [List.map_append]; rfl, a⟩, b⟩
    · exact .inr ⟨rfl, ⟨p ++ [⟨x, h3, h4⟩], by rw [List.map_append]; rfl, a⟩⟩
  · have h1 := World.block_lt_of_cell? a _ ha.c0
    refine ha.blocks hk.size (hk.block B hB h1 hB2) (fun k hk2 => ?_) (hk.block _ hg ha.tz.lt hg2)
    exact hk.block k (hw k hk2).1 (ha.words.lt k hk2) (hw k hk2).2
  · rintro e W' ⟨he, ⟨ys, h1, p, rfl, h3⟩ | ⟨pre, h1, p, rfl, h3⟩⟩
    · exact ⟨he, .inl ⟨p, h1, h3⟩⟩
    · exact ⟨he, .inr ⟨p, h1, h3⟩⟩

theorem memM_all {M : Nat} {hs : List Nat} (hc : Canon hs (M / 2 ^ 64)) (hl : hs.length ≤ 63) : memM M (64 * (1 + hs.length)) = memM M 4096 := by
  have hlt : M < 2 ^ (64 * (1 + hs.length)) := by
    have h1 := hc.lt
    rw [show 64 * (1 + hs.length) = 64 * hs.length + 64 by omega, Nat.pow_add]
    exact (Nat.div_lt_iff_lt_mul (Nat.pow_pos (by omega))).1 h1
  have := memM_skip (M := M) (a := 64 * (1 + hs.length)) (4096 - 64 * (1 + hs.length)) fun i h1 _ => Nat.testBit_lt_two_pow (Nat.lt_of_lt_of_le hlt (Nat.pow_le_pow_right (by omega) h1))
  rw [show 64 * (1 + hs.length) + (4096 - 64 * (1 + hs.length)) = 4096 by omega] at this
  exact this.symm

set_option maxRecDepth 100000 in
theorem all_any (w : World) (lo : Nat) (va : Option Addr) (n vc : Nat) :
    Calls Tryd.prog 61 #[.agg #[.int .u64 lo, .slice va n vc]] w fun e w' => e = .returned (.func (.func 86) #[] #[.pointer (some ⟨w.heap.size, 0, none⟩)]) ∧ w' = w.alloc (.cells #[.int .u64 lo, .slice va n vc] 56) := by
  go_enter Tryd.func61, Tryd.ntmps61
  go_wp2_with fail
  go_ret
  exact ⟨rfl, rfl⟩

/-- The set's box behind All. -/
theorem allAt_new {w : World} {M : Nat} {va : Option Addr} {vc : Nat} {hs : List Nat} {k : Nat} (hw : Words w (.slice va k vc) hs) (hc : Canon hs (M / 2 ^ 64)) (hT : Tz w) :
    AllAt (w.alloc (.cells #[.int .u64 (M % 2 ^ 64 : Nat), .slice va k vc] 56)) w.heap.size M (.slice va k vc) hs :=
  ⟨by go_simp, by go_simp, hw.kept (Kept.alloc (fun _ => False) _ _) (fun _ _ h => h), hc, hT.kept (Kept.alloc (fun _ => False) _ _) (fun h => h)⟩

set_option maxRecDepth 100000 in
set_option maxHeartbeats 3200000 in
theorem list_any (w : World) (v : Value) (M : Nat) (h : SetV w v M) (hS : Small M) (hT : Tz w) :
    Calls Tryd.prog 27 #[v] w fun e w' => ∃ u, e = .returned u ∧ w'.ownsRow 0 3 1 u (memM M 4096).length ((memM M 4096).map (Value.int .i64)) ∧ (∀ k, u.ownBlock = some k → w.heap.size ≤ k) ∧ Kept (fun _ => False) w w' := by
  obtain ⟨i0, hi, hz0, hz1, hz2⟩ := info_parts info_int9
  obtain ⟨hv, hs, rfl, hw, hc, -⟩ := h.ex
  have hsm := hc.small hS
  have hall := memM_all hc hsm
  obtain ⟨va, vc, hf, -, -⟩ := words_form hw
  subst hf
  have hLN := fun (W : World) (k : Kept (fun _ => False) w W) => len_any W _ M _ hs rfl (hw.kept k (fun _ _ h => h)) hc hsm
  have hlen : lenS M hs ≤ 10000 := by
    have h1 := popS_le (M % 2 ^ 64)
    have h2 := pop_bound hs
    unfold lenS; omega
  have hml := memM_le M 4096
  obtain ⟨L, hL⟩ : ∃ L, L = memM M 4096 := ⟨_, rfl⟩
  obtain ⟨c, hcc⟩ : ∃ c, c = lenS M hs := ⟨_, rfl⟩
  rw [← hcc] at hLN hlen
  have hwlt := hw.lt
  have hglt := hT.lt
  have HSEQ : Hid (∀ (W : World) (B : Nat) (va0 : Option Addr) (vc0 : Nat), AllAt W B M (.slice va hs.length vc) hs → w.heap.size ≤ B → B < W.heap.size → (∀ g, va0 = some g → w.heap.size ≤ g.block ∧ g.block ≠ B ∧ g = ⟨g.block, 0, none⟩) → W.ownsRow 0 3 1 (.slice va0 0 vc0) 0 [] → w.heap.size ≤ W.heap.size →
      Calls Tryd.prog 59 #[.slice va0 0 vc0, .func (.func 86) #[] #[.pointer (some ⟨B, 0, none⟩)]] W fun e W' => ∃ u, e = .returned u ∧ W'.ownsRow 0 3 1 u L.length (L.map (Value.int .i64)) ∧ RowAt (.slice va0 0 vc0) W.heap.size u ∧ Kept (blk (.slice va0 0 vc0)) W W') := by
    intro W B va0 vc0 hA hB hB2 hva hrow hsz
    have hblk : ∀ k, blk (.slice va0 0 vc0) k → w.heap.size ≤ k ∧ k ≠ B := fun k hk => by
      cases va0 with
      | none => simp [blk, Value.ownBlock] at hk
      | some g =>
        obtain ⟨e1, e2, e3⟩ := hva g rfl
        have : g.block = k := by
          rw [e3] at hk
          simpa [blk, Value.ownBlock] using hk
        subst this
        exact ⟨e1, e2⟩
    have := appendSeq_any #[.pointer (some ⟨B, 0, none⟩)] L va0 vc0 W (fun S M' hM hS => by
      rw [hL, ← hall]
      refine all_stops S M' B M va vc hs W hA hsm (by omega) (fun hs2 => ?_) (fun k hk => ⟨by have := hwlt k hk; omega, fun hs2 => ?_⟩) (by omega) (fun hs2 => ?_)
      · rcases hS _ hs2 with h | h
        · omega
        · exact (hblk _ h).2 rfl
      · have h1 := hwlt k hk
        rcases hS _ hs2 with h | h
        · omega
        · have := (hblk _ h).1; omega
      · rcases hS _ hs2 with h | h
        · omega
        · have := (hblk _ h).1; omega) (by rw [hL]; omega) hrow
    exact this
  rw [← hL]
  have HLN := Lib.hid hLN; have HT := Lib.hid hT; have HW := Lib.hid hw; have HCN := Lib.hid hc
  clear h hS hall hw hc hLN hL hcc hml hwlt hT
  have HAL := Lib.hid (fun (W : World) (k : Kept (fun _ => False) w W) => allAt_new (M := M) (HW.out.kept k (fun _ _ h => h)) HCN.out (HT.out.kept k (fun h => h)))
  generalize hs.length = n at *
  obtain ⟨lo, hlo⟩ : ∃ lo, lo = M % 2 ^ 64 := ⟨_, rfl⟩
  rw [← hlo] at HLN HAL ⊢
  clear hlo
  go_enter Tryd.func27, Tryd.ntmps27
  have KA := Lib.hid (Kept.alloc (fun _ => False) w (.cells #[.int .u64 lo, .slice va n vc] 56))
  have hbx : Hid (∀ W, Kept (fun _ => False) (w.alloc (.cells #[.int .u64 lo, .slice va n vc] 56)) W → W.cell? ⟨w.heap.size, 0, none⟩ = some (.int .u64 lo) ∧ W.cell? ⟨w.heap.size, 1, none⟩ = some (.slice va n vc) ∧ w.heap.size < W.heap.size) := fun W hk => box_cells hk (fun h => h)
  go_wp2_with fail
  generalize w.alloc (.cells #[.int .u64 lo, .slice va n vc] 56) = wA at KA hbx ⊢
  have D0 := Lib.hid ((Kept.refl (fun _ => False) wA).drew)
  refine wp_region_held_drew (S := fun w' => w'.cell? ⟨w.heap.size, 0, none⟩ = some (.int .u64 lo) ∧ w'.cell? ⟨w.heap.size, 1, none⟩ = some (.slice va n vc)) (by kernel_rfl) ⟨(hbx.out _ D0.out).1, (hbx.out _ D0.out).2.1⟩ (fun _ => ?_)
  refine wpAnyH_take (i := 0) (v := .agg #[.int .u64 lo, .slice va n vc]) rfl (by kernel_rfl) (by kernel_rfl) (by kernel_rfl) (fun _ _ _ h => h) (Or.inl ⟨by simp [Region.wanted, yielded], fun W hS => by have h1 := hS.1; have h2 := hS.2; go_simp⟩) ⟨(hbx.out _ D0.out).1, (hbx.out _ D0.out).2.1⟩ ?_
  try (simp only [Act.put, List.getElem_toArray, List.getElem_cons_succ, List.getElem_cons_zero, List.setIfInBounds_toArray, List.set_cons_zero, List.set_cons_succ])
  refine wpAnyH_take (i := 3) (v := .agg #[.int .u64 lo, .slice va n vc]) rfl (by kernel_rfl) (by kernel_rfl) (by kernel_rfl) (fun _ _ _ h => h) (Or.inl ⟨by simp [Region.wanted, yielded], fun W hS => by have h1 := hS.1; have h2 := hS.2; go_simp⟩) ⟨(hbx.out _ D0.out).1, (hbx.out _ D0.out).2.1⟩ ?_
  try (simp only [Act.put, List.getElem_toArray, List.getElem_cons_succ, List.getElem_cons_zero, List.setIfInBounds_toArray, List.set_cons_zero, List.set_cons_succ])
  refine wpAnyH_ready (rs := [1]) (by kernel_rfl) (by simp) ?_
  refine AllReadyH.cons (o := _) rfl (fun K hK => ?_) AllReadyH.nil
  try (rw [if_pos (by simp [Region.wanted, yielded])])
  go_simp
  go_at_call 60
  refine (HLN.out wA.drew (KA.out.then D0.out)).mono ?_
  rintro e w1 ⟨rfl, k1⟩; have D1 := Lib.hid (D0.out.then k1); clear k1
  go_wp2_with fail
  refine hK.out _ _ ⟨(hbx.out _ D1.out).1, (hbx.out _ D1.out).2.1⟩ (fun _ => ?_)
  clear hK K
  try (simp only [Act.put, List.getElem_toArray, List.getElem_cons_succ, List.getElem_cons_zero, List.setIfInBounds_toArray, List.set_cons_zero, List.set_cons_succ])
  have hsz1 := (KA.out.then D1.out).size
  refine wpAnyH_ready (rs := [2, 4]) (by kernel_rfl) (by simp) ?_
  refine AllReadyH.cons (o := _) rfl (fun K hK => ?_) (AllReadyH.cons (o := _) rfl (fun K hK => ?_) AllReadyH.nil)
  · obtain ⟨w2, hmk, hown, hgr⟩ := run_make_own (P := Tryd.prog) w1 0 52 3 i0 (.int .i64 0) 1 Tryd.underlying52 hi hz0 hz1 .i64 .i64 c (by rw [hz2]; omega) (by unfold maxLen; omega) (Nat.zero_le _)
    have D2 := Lib.hid (D1.out.then (Kept.ofGrown (S := fun _ => False) hgr (fun k e => by cases e)))
    have HOWN := Lib.hid hown; have HGR := Lib.hid hgr
    clear hown hgr
    try (rw [if_pos (by simp [Region.wanted, yielded])])
    go_simp
    refine hK.out _ _ ⟨(hbx.out _ D2.out).1, (hbx.out _ D2.out).2.1⟩ (fun _ => ?_)
    clear hK K hmk
    try (simp only [Act.put, List.getElem_toArray, List.getElem_cons_succ, List.getElem_cons_zero, List.setIfInBounds_toArray, List.set_cons_zero, List.set_cons_succ])
    refine wpAnyH_ready (rs := [4]) (by kernel_rfl) (by simp) ?_
    refine AllReadyH.cons (o := _) rfl (fun K hK => ?_) AllReadyH.nil
    try (rw [if_pos (by simp [Region.wanted, yielded])])
    try (rw [if_pos (by simp [Region.wanted, yielded])])
    go_simp
    go_at_call 61
    refine (all_any w2 lo va n vc).mono ?_
    rintro e w3 ⟨rfl, hwal⟩
    have hAt := HAL.out w2 (KA.out.then D2.out)
    have hkal : Kept (fun _ => False) w2 w3 := by rw [hwal]; exact Kept.alloc _ _ _
    have HSZL : Hid (w3.heap.size = w2.heap.size + 1) := by rw [hwal]; show _ = _; simp
    rw [← hwal] at hAt
    have HAT := Lib.hid hAt; have D3 := Lib.hid (D2.out.then hkal); have HKAL := Lib.hid hkal
    clear hwal hAt hkal
    go_wp2_with fail
    refine hK.out _ _ ⟨(hbx.out _ D3.out).1, (hbx.out _ D3.out).2.1⟩ (fun _ => ?_)
    clear hK K
    try (simp only [Act.put, List.getElem_toArray, List.getElem_cons_succ, List.getElem_cons_zero, List.setIfInBounds_toArray, List.set_cons_zero, List.set_cons_succ])
    have hsz2 := D2.out.size
    have hszal := HSZL.out
    have HAT2 := HAT.out
    have hB1 : w.heap.size ≤ w2.heap.size := (KA.out.then D2.out).size
    have hB2 : w2.heap.size < w3.heap.size := by omega
    have hB3 : w.heap.size ≤ w1.heap.size := hsz1
    have hgw : w1.heap.size < w2.heap.size := (HOWN.out.lt w1.heap.size (by simp [Value.ownBlock])).2
    have hB4 : w1.heap.size ≠ w2.heap.size := by omega
    have hB5 : w.heap.size ≤ w3.heap.size := by omega
    have hxA := KA.out.size
    have hwA1 := D1.out.size
    have HROW := HKAL.out.owns HOWN.out (fun _ _ h => h)
    clear hszal
    have HSQ := Lib.hid (HSEQ.out w3 w2.heap.size (some ⟨w1.heap.size, 0, none⟩) c HAT2 hB1 hB2 (fun g hg => by cases hg; exact ⟨hB3, hB4, rfl⟩) HROW hB5)
    clear HAT2 HROW
    refine wpAnyH_ready (rs := [5]) (by kernel_rfl) (by simp) ?_
    refine AllReadyH.cons (o := _) rfl (fun K hK => ?_) AllReadyH.nil
    try (rw [if_pos (by simp [Region.wanted, yielded])])
    go_simp
    go_at_call 59
    refine (HSQ.out).mono ?_
    rintro e w4 ⟨u, rfl, hu, hat4, k4⟩; have HU := Lib.hid hu; have HAT4 := Lib.hid hat4; have HK4 := Lib.hid k4; have D4 : Hid (Kept (fun _ => False) wA w4) := D3.out.trans k4 (fun _ _ h => h) (fun i hi e => by have e2 : w1.heap.size = i := (by simpa [blk, Value.ownBlock] using e); omega); clear hu hat4 k4
    go_wp2_with fail
    refine hK.out _ _ ⟨(hbx.out _ D4.out).1, (hbx.out _ D4.out).2.1⟩ (fun _ => ?_)
    clear hK K
    try (simp only [Act.put, List.getElem_toArray, List.getElem_cons_succ, List.getElem_cons_zero, List.setIfInBounds_toArray, List.set_cons_zero, List.set_cons_succ])
    refine wpAnyH_take (i := 6) (v := u) rfl (by kernel_rfl) (by kernel_rfl) (by kernel_rfl) (fun _ _ _ h => h) (Or.inl ⟨by simp [Region.wanted, yielded], fun W hS => by go_simp⟩) ⟨(hbx.out _ D4.out).1, (hbx.out _ D4.out).2.1⟩ ?_
    try (simp only [Act.put, List.getElem_toArray, List.getElem_cons_succ, List.getElem_cons_zero, List.setIfInBounds_toArray, List.set_cons_zero, List.set_cons_succ])
    refine wpAnyH_done (by kernel_rfl) ?_ _
    go_wp2_with fail
    go_ret
    exact ⟨u, rfl, HU.out, fun k hk => (HAT4.out k hk).elim (fun e => by have e2 : w1.heap.size = k := (by simpa [blk, Value.ownBlock] using e); omega) (fun e => by omega), KA.out.then D4.out⟩
  · try (rw [if_pos (by simp [Region.wanted, yielded])])
    go_simp
    go_at_call 61
    refine (all_any w1 lo va n vc).mono ?_
    rintro e w2 ⟨rfl, hwal⟩
    have hAt := HAL.out w1 (KA.out.then D1.out)
    have hkal : Kept (fun _ => False) w1 w2 := by rw [hwal]; exact Kept.alloc _ _ _
    have HSZL : Hid (w2.heap.size = w1.heap.size + 1) := by rw [hwal]; show _ = _; simp
    rw [← hwal] at hAt
    have HAT := Lib.hid hAt; have D2 := Lib.hid (D1.out.then hkal); have HKAL := Lib.hid hkal
    clear hwal hAt hkal
    go_wp2_with fail
    refine hK.out _ _ ⟨(hbx.out _ D2.out).1, (hbx.out _ D2.out).2.1⟩ (fun _ => ?_)
    clear hK K
    try (simp only [Act.put, List.getElem_toArray, List.getElem_cons_succ, List.getElem_cons_zero, List.setIfInBounds_toArray, List.set_cons_zero, List.set_cons_succ])
    refine wpAnyH_ready (rs := [2]) (by kernel_rfl) (by simp) ?_
    refine AllReadyH.cons (o := _) rfl (fun K hK => ?_) AllReadyH.nil
    try (rw [if_pos (by simp [Region.wanted, yielded])])
    obtain ⟨w3, hmk, hown, hgr⟩ := run_make_own (P := Tryd.prog) w2 0 52 3 i0 (.int .i64 0) 1 Tryd.underlying52 hi hz0 hz1 .i64 .i64 c (by rw [hz2]; omega) (by unfold maxLen; omega) (Nat.zero_le _)
    have D3 := Lib.hid (D2.out.then (Kept.ofGrown (S := fun _ => False) hgr (fun k e => by cases e)))
    have HOWN := Lib.hid hown; have HGR := Lib.hid hgr
    clear hown hgr
    try (rw [if_pos (by simp [Region.wanted, yielded])])
    go_simp
    refine hK.out _ _ ⟨(hbx.out _ D3.out).1, (hbx.out _ D3.out).2.1⟩ (fun _ => ?_)
    clear hK K hmk
    try (simp only [Act.put, List.getElem_toArray, List.getElem_cons_succ, List.getElem_cons_zero, List.setIfInBounds_toArray, List.set_cons_zero, List.set_cons_succ])
    have hsz2 := D2.out.size
    have hszal := HSZL.out
    have HAT2 := HAT.out.on (Kept.ofGrown (S := fun _ => False) HGR.out (fun k e => by cases e))
    have hB1 : w.heap.size ≤ w1.heap.size := hsz1
    have hgw : w2.heap.size < w3.heap.size := (HOWN.out.lt w2.heap.size (by simp [Value.ownBlock])).2
    have hB2 : w1.heap.size < w3.heap.size := by omega
    have hB3 : w.heap.size ≤ w2.heap.size := by omega
    have hB4 : w2.heap.size ≠ w1.heap.size := by omega
    have hB5 : w.heap.size ≤ w3.heap.size := by omega
    have hxA := KA.out.size
    have hwA1 := D1.out.size
    have HROW := HOWN.out
    clear hszal
    have HSQ := Lib.hid (HSEQ.out w3 w1.heap.size (some ⟨w2.heap.size, 0, none⟩) c HAT2 hB1 hB2 (fun g hg => by cases hg; exact ⟨hB3, hB4, rfl⟩) HROW hB5)
    clear HAT2 HROW
    refine wpAnyH_ready (rs := [5]) (by kernel_rfl) (by simp) ?_
    refine AllReadyH.cons (o := _) rfl (fun K hK => ?_) AllReadyH.nil
    try (rw [if_pos (by simp [Region.wanted, yielded])])
    go_simp
    go_at_call 59
    refine (HSQ.out).mono ?_
    rintro e w4 ⟨u, rfl, hu, hat4, k4⟩; have HU := Lib.hid hu; have HAT4 := Lib.hid hat4; have HK4 := Lib.hid k4; have D4 : Hid (Kept (fun _ => False) wA w4) := D3.out.trans k4 (fun _ _ h => h) (fun i hi e => by have e2 : w2.heap.size = i := (by simpa [blk, Value.ownBlock] using e); omega); clear hu hat4 k4
    go_wp2_with fail
    refine hK.out _ _ ⟨(hbx.out _ D4.out).1, (hbx.out _ D4.out).2.1⟩ (fun _ => ?_)
    clear hK K
    try (simp only [Act.put, List.getElem_toArray, List.getElem_cons_succ, List.getElem_cons_zero, List.setIfInBounds_toArray, List.set_cons_zero, List.set_cons_succ])
    refine wpAnyH_take (i := 6) (v := u) rfl (by kernel_rfl) (by kernel_rfl) (by kernel_rfl) (fun _ _ _ h => h) (Or.inl ⟨by simp [Region.wanted, yielded], fun W hS => by go_simp⟩) ⟨(hbx.out _ D4.out).1, (hbx.out _ D4.out).2.1⟩ ?_
    try (simp only [Act.put, List.getElem_toArray, List.getElem_cons_succ, List.getElem_cons_zero, List.setIfInBounds_toArray, List.set_cons_zero, List.set_cons_succ])
    refine wpAnyH_done (by kernel_rfl) ?_ _
    go_wp2_with fail
    go_ret
    exact ⟨u, rfl, HU.out, fun k hk => (HAT4.out k hk).elim (fun e => by have e2 : w2.heap.size = k := (by simpa [blk, Value.ownBlock] using e); omega) (fun e => by omega), KA.out.then D4.out⟩
end Go.Proofs.YtccanbjnbmihgaaDoor
/-
  bits.Set.Text: the members in decimal between braces.
-/
namespace Go.Proofs.YtccanbjnbmihgaaDoor
open Go.RowKit Go.Shelf
attribute [local go_sem] Oper.semAt_some

theorem info_u8t : (Tryd.prog.info? 5).map (fun i => (i.zero, i.size, i.bytes)) = some (some (.int .u8 0), 1, 1) := by kernel_rfl

/-- What the text's loop holds: the row, and the variable that holds it. -/
structure TxAt (W : World) (b : Nat) (v : Value) (xs : List UInt8) : Prop where
  box : Boxed W (b + 2) 76 v
  row : W.ownsRow (b + 1) 5 1 v xs.length (Lib.byteCells xs)
  at_ : ∀ k, v.ownBlock = some k → k = b + 1 ∨ b + 4 ≤ k
def TxS (b : Nat) (k : Nat) : Prop := k = b + 1 ∨ k = b + 2

theorem OthersKept.box {e t : TypeId} {W W' : World} (h : Lib.OthersKept e none W W') {k : Nat} {cs : Array Value} {fz : Nat × Nat} (hk : W.heap[k]? = some (.cells cs t fz)) (ht : t ≠ e) : W'.heap[k]? = some (.cells cs t fz) :=
  h k _ hk (by simp) (fun c f e2 => by cases e2; exact ht rfl)

theorem tx_grow {W W' : World} {b : Nat} {v v' : Value} {xs ys : List UInt8} (h : TxAt W b v xs) {c3 : Array Value} (h3 : W.heap[b + 3]? = some (.cells c3 56 (0, 0)))
    (hown : W'.ownsRow (b + 1) 5 1 v' ys.length (Lib.byteCells ys)) (hb : Below (b + 1) W W') (ho : Lib.OthersKept 5 none W W') (B : Nat) :
    TxAt (W'.setCell ⟨b + 2, 0, none⟩ v') b v' ys ∧ KeepsFrom B W (W'.setCell ⟨b + 2, 0, none⟩ v') ∧ KeepM (TxS b) (b + 4) W (W'.setCell ⟨b + 2, 0, none⟩ v') := by
  have hbox : Boxed W' (b + 2) 76 v := OthersKept.box ho h.box (by decide)
  have h3' := OthersKept.box ho h3 (by decide)
  have hat : ∀ k, v'.ownBlock = some k → k = b + 1 ∨ b + 4 ≤ k := fun k hk => by
    obtain ⟨_, hh⟩ := hown
    rcases hh with ⟨rfl, _⟩ | ⟨g, cap, cur, rfl, h1, h2, _⟩
    · cases hk
    · have : g = k := by simpa [Value.ownBlock] using hk
      subst this
      by_cases e2 : g = b + 2
      · subst e2; rw [show W'.heap[b + 2]? = _ from hbox] at h2; cases h2
      · by_cases e3 : g = b + 3
        · subst e3; rw [h3'] at h2; cases h2
        · omega
  have hkc := Kept.setCell (fun k => k = b + 2) W' ⟨b + 2, 0, none⟩ v' rfl
  refine ⟨⟨hbox.set v', hkc.owns hown (fun k hk e => by have := hat k hk; omega), hat⟩, ?_, ?_⟩
  · refine KeepsFrom.trans ⟨hb.size, fun k o _ hk hc => ho k o hk (by simp) (fun c f e => by subst e; cases hc)⟩ (KeepsOthers.from (KeepsOthers.setCell W' _ v') B)
  · refine KeepM.trans (b := W') ⟨hb.os, hb.tape, hb.output, hb.size, fun k h1 h2 hn => ?_⟩ (KeepM.grown (grownBy_setCell' W' (b + 2) v') (fun r e => by cases e; exact Or.inr (Or.inr rfl)))
    by_cases e3 : k = b + 3
    · subst e3; exact h3'.trans h3.symm
    · exact hb.block k (by
        have h5 : ¬ (k = b + 1 ∨ k = b + 2) := hn
        omega)

theorem others_grown {W W1 : World} {tmp : Obj} {row : Option Nat} {e : TypeId} (hg : (W.alloc tmp).grownBy W1 row) (hrow : ∀ r, row = some r → ∃ c fz, W.heap[r]? = some (.cells c e fz)) : Lib.OthersKept e none W W1 := by
  intro k o hk _ ho
  have hlt : k < W.heap.size := (Array.getElem?_eq_some_iff.1 hk).1
  refine (hg.block k (by simp; omega) (fun e2 => ?_)).trans ((Below.heap_alloc W tmp k hlt).trans hk)
  obtain ⟨c, fz, h⟩ := hrow k e2.symm
  rw [hk] at h
  exact ho _ _ (Option.some.inj h)
theorem KeepM.below {S : Nat → Prop} {M B : Nat} {a b : World} (h : KeepM S M a b) (hM : B ≤ M) (hB : B ≤ a.heap.size) (hS : ∀ k, k < B → ¬ S k) : Below B a b :=
  ⟨h.os, h.tape, h.output, h.size, fun k hk => h.block k (by omega) (by omega) (hS k hk)⟩
theorem row_cells {W : World} {base : Nat} {e : TypeId} {size : Nat} {v : Value} {k : Nat} {xs : List Value} (h : W.ownsRow base e size v k xs) : ∀ r, v.ownBlock = some r → base ≤ r ∧ ∃ c fz, W.heap[r]? = some (.cells c e fz) := by
  intro r hr
  obtain ⟨_, hh⟩ := h
  rcases hh with ⟨rfl, _⟩ | ⟨g, cap, cur, rfl, h1, h2, _⟩
  · cases hr
  · have : g = r := by simpa [Value.ownBlock] using hr
    subst this
    exact ⟨h1, _, _, h2⟩
theorem row_slice {W : World} {base : Nat} {e : TypeId} {size : Nat} {v : Value} {k : Nat} {xs : List Value} (h : W.ownsRow base e size v k xs) (hk : 0 < k) : ∃ g cap, v = .slice (some ⟨g, 0, none⟩) k cap := by
  obtain ⟨_, hh⟩ := h
  rcases hh with ⟨_, h0⟩ | ⟨g, cap, cur, rfl, _⟩
  · omega
  · exact ⟨g, cap, rfl⟩
theorem tab_on {P : Program} {B B' : Nat} {w W : World} {name : String} {k : IntKind} {zs : List Int} (h : Lib.TabBelow P B w name k zs) (hb : Below B w W) (hB : B ≤ B') : Lib.TabBelow P B' W name k zs :=
  fun w' h' => h w' (hb.trans (h'.mono hB))

theorem conv_row {W1 : World} {base g' n cap' : Nat} {l : List UInt8} (h : W1.ownsRow base 5 1 (.slice (some ⟨g', 0, none⟩) n cap') n (Lib.byteCells l)) (hn : l.length = n) :
    (convert 76 9 (.slice (some ⟨g', 0, none⟩) n cap')).run Tryd.prog W1 = .ok (.string ⟨l.toArray⟩) W1 := by
  subst hn
  refine run_convert_bytes_back (P := Tryd.prog) W1 76 9 5 ⟨g', 0, none⟩ cap' l Tryd.underlying76 Tryd.underlying5 Tryd.underlying9 (fun j hj => ?_)
  have hadd : (⟨g', 0, none⟩ : Addr).add j = ⟨g', j, none⟩ := by unfold Addr.add; split <;> simp_all
  rw [hadd, h.cellAt j (by omega)]
  simp [Lib.byteCells, hj]

set_option maxRecDepth 100000 in
set_option maxHeartbeats 3200000 in
theorem text_at (w : World) (lo n vc : Nat) (va : Option Addr) (M : Nat) (hs : List Nat) (hlo : lo = M % 2 ^ 64) (hn : hs.length = n) (hw : Words w (.slice va n vc) hs) (hc : Canon hs (M / 2 ^ 64)) (hl : n ≤ 63) (hT : Tz w)
    (hP : Lib.TabBelow Tryd.prog w.heap.size w "internal/strconv.uint64pow10" .u64 Lib.pow10Tab) :
    Calls Tryd.prog 46 #[.agg #[.int .u64 lo, .slice va n vc]] w fun e w' => e = .returned (.string ⟨(textS M).toArray⟩) ∧ Kept (fun _ => False) w w' := by
  have HLO := Lib.hid hlo; have HN := Lib.hid hn
  clear hlo hn
  have hwlt := hw.lt; have hglt := hT.lt
  refine (callsIn_wide (n := 3)).1 ?_
  obtain ⟨i0, hi, hz0, hz1, hz2⟩ := info_parts info_u8t
  obtain ⟨w3, hw3⟩ : ∃ w3, w3 = ((w.alloc (.cells #[.int .u64 lo, .slice va n vc] 56)).alloc (.cells #[.int .u8 123] 5)).alloc (.cells #[.slice (some ⟨w.heap.size + 1, 0, none⟩) 1 1] 76) := ⟨_, rfl⟩
  have hk3 : Kept (fun _ => False) w w3 := by rw [hw3]; exact ((Kept.alloc _ _ _).then (Kept.alloc _ _ _)).then (Kept.alloc _ _ _)
  have hs3 : w3.heap.size = w.heap.size + 3 := by rw [hw3]; simp
  have hb3 : Boxed w3 (w.heap.size + 2) 76 (.slice (some ⟨w.heap.size + 1, 0, none⟩) 1 1) := by rw [hw3]; have := Boxed.new ((w.alloc (.cells #[.int .u64 lo, .slice va n vc] 56)).alloc (.cells #[.int .u8 123] 5)) 76 (.slice (some ⟨w.heap.size + 1, 0, none⟩) 1 1); simpa using this
  have hr3 : w3.ownsRow (w.heap.size + 1) 5 1 (.slice (some ⟨w.heap.size + 1, 0, none⟩) 1 1) 1 [.int .u8 123] := by
    rw [hw3]
    refine (Kept.alloc (fun _ => False) _ _).owns ?_ (fun _ _ h => h)
    have := owns_lit (w.alloc (.cells #[.int .u64 lo, .slice va n vc] 56)) (w.heap.size + 1) #[.int .u8 123] [123] 1 rfl rfl (by simp) (by decide)
    rw [show bv [123] = [Value.int .u8 123] from rfl] at this
    simpa using this
  obtain ⟨w1, hw1⟩ : ∃ w1, w1 = w3.alloc (.cells #[.int .u64 lo, .slice va n vc] 56) := ⟨_, rfl⟩
  have hk1 : Kept (fun _ => False) w3 w1 := by rw [hw1]; exact Kept.alloc _ _ _
  have hs1 : w1.heap.size = w.heap.size + 4 := by rw [hw1]; simp [hs3]
  have hob : w1.heap[w.heap.size + 3]? = some (.cells #[.int .u64 lo, .slice va n vc] 56 (0, 0)) := by rw [hw1, ← hs3]; exact heap_alloc_new w3 _
  have hAll : AllAt w1 (w.heap.size + 3) M (.slice va hs.length vc) hs := by
    rw [HN.out, hw1, ← hs3, HLO.out]
    exact allAt_new (hw.kept hk3 (fun _ _ h => h)) hc (hT.kept hk3 (fun h => h))
  have hS := all_stopsM (TxS w.heap.size) (w.heap.size + 4) (w.heap.size + 3) M va vc hs w1 hAll (by rw [HN.out]; exact hl) (by omega) (fun h => by unfold TxS at h; omega)
    (fun k hk => by rw [HN.out] at hk; have := hwlt k hk; exact ⟨by omega, fun h => by unfold TxS at h; omega⟩) (by omega) (fun h => by unfold TxS at h; omega)
  rw [memM_all hc (by rw [HN.out]; exact hl)] at hS
  have h01 : TxAt w1 w.heap.size (.slice (some ⟨w.heap.size + 1, 0, none⟩) 1 1) (txt []) := by
    refine ⟨?_, hk1.owns hr3 (fun _ _ h => h), fun k hk => Or.inl ?_⟩
    · show w1.heap[_]? = _
      rw [hk1.block _ (by omega) (fun h => h)]; exact hb3
    · simpa [Value.ownBlock] using hk.symm
  have HW1 := Lib.hid hw1; have HW3 := Lib.hid hw3; have HS := Lib.hid hS; have H01 := Lib.hid h01; have HK := Lib.hid (hk3.then hk1)
  have HS1 := Lib.hid hs1; have HOB := Lib.hid hob; have HML := Lib.hid (memM_le M 4096)
  clear hw1 hw3 hS h01 hk1 hk3 hs3 hb3 hr3 hs1 hob hAll hc hw hwlt
  refine callsIn_of_wp_marks Tryd.func46 rfl trivial ?_ rfl
  simp only [Tryd.ntmps46, List.size_toArray, List.length_cons, List.length_nil, Nat.reduceAdd, Nat.reduceSub, Array.replicate_succ, Array.replicate_zero, List.push_toArray, List.append_toArray, List.nil_append, List.cons_append]
  gi_wp2_with (refine ⟨trivial, ?_⟩; gi_at_call 61; refine (callsIn_wide.2 (all_any _ lo va n vc)).mono ?_; rintro e w1' ⟨rfl, hw1'⟩)
  have hq : w1' = w1 := by rw [hw1', HW1.out, HW3.out]
  rw [← hw1']
  clear hw1'
  subst hq
  have hs1 := HS1.out
  obtain ⟨p3, hp3⟩ : ∃ p3, p3 = w.heap.size + 1 + 1 + 1 := ⟨_, rfl⟩
  rw [← hp3]
  have hS := HS.out
  rw [show w.heap.size + 3 = p3 from hp3.symm] at hS
  clear hp3
  obtain ⟨p2, hp2⟩ : ∃ p2, p2 = w.heap.size + 1 + 1 := ⟨_, rfl⟩
  rw [← hp2]
  have HP2 := Lib.hid hp2
  clear hp2
  refine wpIn_rangeFunc_ownG rfl (by omega) (gf := 86) (lb := #[.pointer (some ⟨p3, 0, none⟩)]) rfl trivial (enters_of Tryd.func86 (by kernel_rfl) rfl)
    hS KeepM.trans (fun W l o o' hl h h1 h2 => KeepM.putB W l o o' (by rw [hs1] at hl; exact hl) h h1 h2) (Below.refl _ _) (fun _ => rfl)
    (fun pre W => (∃ v, TxAt W w.heap.size v (txt (pre.map (·.1)))) ∧ KeepM (TxS w.heap.size) (w.heap.size + 4) w1' W)
    (fun _ _ _ => False) ?_
    (fun _ _ _ _ _ hs _ _ => hs)
    ⟨⟨_, H01.out⟩, KeepM.refl _ _ _⟩
    (fun x => { tmps := #[.agg #[.int .u64 lo, .slice va n vc], .pointer (some ⟨w.heap.size, 0, none⟩), .string ⟨#[]⟩, .pointer (some ⟨p2, 0, none⟩), .int .i64 x.1, .slice (some ⟨w.heap.size + 1, 0, none⟩) 1 1, .agg #[.int .u64 lo, .slice va n vc], .func (.func 86) #[] #[.pointer (some ⟨p3, 0, none⟩)], .int .i64 x.1, undef, undef, undef, undef, undef, undef, undef, undef, undef, undef, undef, undef, undef], defers := [] }) ?assign ?body ?done ?stop
  · refine OwnFrom.and (fun s W W' row hs hg hr => ?_) (ownFrom_keepM (by omega))
    obtain ⟨v, h⟩ := hs
    have := (holdsRow_own (w.heap.size + 1) (w.heap.size + 2) 76 5 1 (fun s : List Mem => (txt (s.map (·.1))).length) (fun s : List Mem => Lib.byteCells (txt (s.map (·.1)))) (fun _ v => ∀ k, v.ownBlock = some k → k = w.heap.size + 1 ∨ w.heap.size + 4 ≤ k)).from _ s W W' row ⟨v, h.box, h.row, h.at_⟩ hg hr
    exact this.imp fun v h => ⟨h.1, h.2.1, h.2.2⟩
  case assign =>
    intro l x W K hK
    gi_wp2
    exact hK
  case body =>
    rintro l pre x W ⟨⟨v, ht⟩, hB⟩ hlt
    obtain ⟨xi, hx0, hx1⟩ := x
    have hml := HML.out
    have hBs := hB.size
    have h3 : W.heap[w.heap.size + 3]? = some (.cells #[.int .u64 lo, .slice va n vc] 56 (0, 0)) := (hB.block _ (by omega) (by omega) (fun h => by unfold TxS at h; omega)).trans HOB.out
    have hle := txt_le (pre.map (·.1)) (fun y hy => by
      obtain ⟨z, _, rfl⟩ := List.mem_map.1 hy
      have := z.2
      omega)
    have hsn := txt_snoc (pre.map (·.1)) xi
    have hge := txt_len (pre.map (·.1))
    rw [List.length_map] at hle
    have hmp : (pre ++ [(⟨xi, hx0, hx1⟩ : Mem)]).map (·.1) = pre.map (·.1) ++ [xi] := by rw [List.map_append]; rfl
    have HTB : Hid (∀ W2, Below (w.heap.size + 1) W W2 → Lib.TabBelow Tryd.prog (w.heap.size + 1) W2 "internal/strconv.uint64pow10" .u64 Lib.pow10Tab) := fun W2 h2 =>
      tab_on hP ((HK.out.below (B := w.heap.size) (Nat.le_refl _) (fun _ h => h.elim)).trans ((hB.below (B := w.heap.size) (by omega) (by omega) (fun k hk h => by unfold TxS at h; omega)).trans (h2.mono (by omega)))) (by omega)
    generalize txt (pre.map (·.1)) = xs at *
    have hc : W.cell? ⟨p2, 0, none⟩ = some v := by rw [HP2.out]; exact ht.box.cell
    have hf : W.frozen? ⟨p2, 0, none⟩ = false := by rw [HP2.out]; exact ht.box.frozen
    have HFIN : Hid (∀ (ys : List UInt8) W2 v2, ys ++ Lib.itoa xi = txt ((pre ++ [(⟨xi, hx0, hx1⟩ : Mem)]).map (·.1)) → TxAt W2 w.heap.size v2 ys → KeepsFrom w1'.heap.size W W2 → KeepM (TxS w.heap.size) (w.heap.size + 4) W W2 →
        ∀ W3 v3, W3.ownsRow (w.heap.size + 1) 5 1 v3 (ys.length + (Lib.itoa xi).length) (Lib.byteCells ys ++ Lib.byteCells (Lib.itoa xi)) → Below (w.heap.size + 1) W2 W3 → Lib.OthersKept 5 none W2 W3 →
        (W3.cell? ⟨p2, 0, none⟩ = some v2 ∧ W3.frozen? ⟨p2, 0, none⟩ = false) ∧ KeepsFrom w1'.heap.size W (W3.setCell ⟨p2, 0, none⟩ v3) ∧ KeepM (TxS w.heap.size) (w.heap.size + 4) W (W3.setCell ⟨p2, 0, none⟩ v3) ∧
          (∃ v, TxAt (W3.setCell ⟨p2, 0, none⟩ v3) w.heap.size v (txt ((pre ++ [(⟨xi, hx0, hx1⟩ : Mem)]).map (·.1)))) ∧ KeepM (TxS w.heap.size) (w.heap.size + 4) w1' (W3.setCell ⟨p2, 0, none⟩ v3)) := by
      intro ys W2 v2 he ht2 hk2 hm2 W3 v3 ho3 hb3 hk3
      have h32 : W2.heap[w.heap.size + 3]? = some (.cells #[.int .u64 lo, .slice va n vc] 56 (0, 0)) := (hm2.block _ (by omega) (by omega) (fun h => by unfold TxS at h; omega)).trans h3
      have hbx := OthersKept.box hk3 ht2.box (by decide)
      have e2 : Lib.byteCells ys ++ Lib.byteCells (Lib.itoa xi) = Lib.byteCells (ys ++ Lib.itoa xi) := by simp [Lib.byteCells]
      rw [e2, ← List.length_append, he] at ho3
      obtain ⟨a1, a2, a3⟩ := tx_grow (v' := v3) ht2 h32 ho3 hb3 hk3 w1'.heap.size
      rw [HP2.out]
      exact ⟨⟨Boxed.cell hbx, Boxed.frozen hbx⟩, hk2.trans a2, hm2.trans a3, ⟨_, a1⟩, (hB.trans hm2).trans a3⟩
    have HT := Lib.hid ht; have HBB := Lib.hid hB; have H3 := Lib.hid h3
    have hW0 : w.heap.size + 1 ≤ W.heap.size := by omega
    have hrc := row_cells ht.row
    obtain ⟨N, hN⟩ : ∃ N, xs.length = N + 1 := ⟨xs.length - 1, by omega⟩
    have hrow := ht.row
    rw [hN] at hrow
    obtain ⟨g, cap, rfl⟩ := ownsRow_succ hrow
    have hNb : N ≤ 100000 := by omega
    have HSN : Hid (∀ ys, ys = (if 1 < xs.length then xs ++ [32] else xs) → ys ++ Lib.itoa xi = txt ((pre ++ [(⟨xi, hx0, hx1⟩ : Mem)]).map (·.1))) := fun ys e => by rw [hmp, hsn, e]
    have HROW := Lib.hid hrow; have HRC := Lib.hid hrc
    have HNN := Lib.hid hN
    clear hsn hmp hrow hrc hle hge ht hB h3 hml hlt hN
    by_cases h1 : 1 < xs.length
    · have h1' : (1 : Int) < (N : Int) + 1 := by have := HNN.out; omega
      have H1 := Lib.hid h1; clear h1
      gi_wp2_with (first
        | (gi_at_builtin; refine wpListIn_append_own_at _ rfl _ _ 76 rfl (w.heap.size + 1) 5 i0 (.int .u8 0) 1 1 Tryd.underlying76 hi hz0 hz1 hz2 rfl (by decide) _ _ _ rfl (HROW.out.alloc _) ⟨W.heap.size, 0, none⟩ 1 1 [.int .u8 32] rfl rfl (cell_one_new _ _ _) (by simp [Value.oneCell']) (by unfold maxLen; omega) (by omega) (by simp; omega) ?_
           intro v' W1 hown' hgrow _ hloc
           obtain ⟨g', cap', rfl⟩ := ownsRow_succ hown'
           have ho1 := others_grown hgrow (fun r e => (HRC.out r e).2)
           have hb1 : Below (w.heap.size + 1) W W1 := ((Below.refl (w.heap.size + 1) W).alloc hW0 _).grown hgrow (by simp; omega) (fun k e => (HRC.out k e).1)
           have e32 : Lib.byteCells xs ++ [.int .u8 32] = Lib.byteCells (xs ++ [32]) := by simp [Lib.byteCells]
           have hown2 : W1.ownsRow (w.heap.size + 1) 5 1 (.slice (some ⟨g', 0, none⟩) (N + 1 + 1) cap') (xs ++ [32]).length (Lib.byteCells (xs ++ [32])) := by rw [← e32, List.length_append, HNN.out]; exact hown'
           have hbx1 := OthersKept.box ho1 HT.out.box (by decide)
           have hc1 : W1.cell? ⟨p2, 0, none⟩ = some (.slice (some ⟨g, 0, none⟩) (N + 1) cap) := by rw [HP2.out]; exact Boxed.cell hbx1
           have hf1 : W1.frozen? ⟨p2, 0, none⟩ = false := by rw [HP2.out]; exact Boxed.frozen hbx1
           have hgr := tx_grow HT.out H3.out hown2 hb1 ho1 w1'.heap.size
           rw [show (⟨w.heap.size + 2, 0, none⟩ : Addr) = ⟨p2, 0, none⟩ by rw [HP2.out]] at hgr
           have HGR := Lib.hid hgr; have HO1 := Lib.hid ho1; have HB1 := Lib.hid hb1
           clear hown' hgrow hloc ho1 hb1 e32 hown2 hbx1 hgr)
        | (refine ⟨trivial, ?_⟩; gi_at_call 79
           obtain ⟨ht2, hk2, hm2⟩ := HGR.out
           have hrow2 := ht2.row
           have hl2 : (xs ++ [32]).length = N + 1 + 1 := by rw [List.length_append, HNN.out]; rfl
           rw [hl2] at hrow2
           have hb2 : Below (w.heap.size + 1) W (W1.setCell ⟨p2, 0, none⟩ (.slice (some ⟨g', 0, none⟩) (N + 1 + 1) cap')) := hm2.below (by omega) (by omega) (fun k hk h => by unfold TxS at h; omega)
           have hAI := sh_AppendInt (w.heap.size + 1) (N + 1 + 1) xi (by omega) (by omega) (.slice (some ⟨g', 0, none⟩) (N + 1 + 1) cap') (Lib.byteCells (xs ++ [32])) _ hrow2 (by have := hb2.size; omega) (by omega) (HTB.out _ hb2)
           have HF := HFIN.out (xs ++ [32]) _ _ (HSN.out (xs ++ [32]) (by rw [if_pos H1.out])) ht2 hk2 hm2
           rw [hl2] at HF
           refine (callsIn_wide.2 hAI).mono ?_; rintro e W3 ⟨v3, rfl, ho3, hb3, hk3⟩; obtain ⟨g3, cap3, rfl⟩ := row_slice ho3 (by omega); obtain ⟨⟨hc3, hf3⟩, hres⟩ := HF W3 _ ho3 hb3 hk3; have HRES := Lib.hid hres; clear hres ho3 hb3 hk3 HF hAI hrow2 hl2 ht2 hk2 hm2 hb2))
      exact HRES.out
    · have h1' : ¬ (1 : Int) < (N : Int) + 1 := by have := HNN.out; omega
      have hAI := sh_AppendInt (w.heap.size + 1) (N + 1) xi (by omega) (by omega) (.slice (some ⟨g, 0, none⟩) (N + 1) cap) (Lib.byteCells xs) W HROW.out hW0 (by omega) (HTB.out W (Below.refl _ _))
      have HAI := Lib.hid hAI
      have HF := Lib.hid (HFIN.out xs W _ (HSN.out xs (by rw [if_neg h1])) HT.out (KeepsFrom.refl _ _) (KeepM.refl _ _ _))
      rw [HNN.out] at HF
      clear hAI h1 HFIN
      gi_wp2_with (refine ⟨trivial, ?_⟩; gi_at_call 79; refine (callsIn_wide.2 HAI.out).mono ?_; rintro e W3 ⟨v3, rfl, ho3, hb3, hk3⟩; obtain ⟨g3, cap3, rfl⟩ := row_slice ho3 (by omega); obtain ⟨⟨hc3, hf3⟩, hres⟩ := HF.out W3 _ ho3 hb3 hk3; have HRES := Lib.hid hres; clear hres ho3 hb3 hk3)
      exact HRES.out
  case done =>
    rintro D ys W hD hys ⟨⟨v, ht⟩, hB⟩ hK
    have hml := HML.out
    have hBs := hB.size
    have hle := txt_le (ys.map (·.1)) (fun y hy => by
      obtain ⟨z, _, rfl⟩ := List.mem_map.1 hy
      have := z.2
      omega)
    have hge := txt_len (ys.map (·.1))
    have hl4 := congrArg List.length hys
    rw [List.length_map] at hle hl4
    have htx : txt (ys.map (·.1)) ++ [125] = textS M := by rw [hys]; rfl
    generalize txt (ys.map (·.1)) = xs at *
    have hc : W.cell? ⟨p2, 0, none⟩ = some v := by rw [HP2.out]; exact ht.box.cell
    have hrc := row_cells ht.row
    obtain ⟨N, hN⟩ : ∃ N, xs.length = N + 1 := ⟨xs.length - 1, by omega⟩
    have hrow := ht.row
    rw [hN] at hrow
    obtain ⟨g, cap, rfl⟩ := ownsRow_succ hrow
    have hNb : N ≤ 100000 := by omega
    have HROW := Lib.hid hrow; have HRC := Lib.hid hrc; have HT := Lib.hid ht; have HBB := Lib.hid hB; have HTX := Lib.hid htx; have HNN := Lib.hid hN; have HKD := Lib.hid hK
    clear hrow hrc ht hB htx hN hys hle hge hl4 hml hK
    gi_wp2_with (gi_at_builtin; refine wpListIn_append_own_at _ rfl _ _ 76 rfl (w.heap.size + 1) 5 i0 (.int .u8 0) 1 1 Tryd.underlying76 hi hz0 hz1 hz2 rfl (by decide) _ _ _ rfl (HROW.out.alloc _) ⟨W.heap.size, 0, none⟩ 1 1 [.int .u8 125] rfl rfl (cell_one_new _ _ _) (by simp [Value.oneCell']) (by unfold maxLen; omega) (by omega) (by simp; omega) ?_
                 intro v' W1 hown' hgrow _ hloc
                 obtain ⟨g', cap', rfl⟩ := ownsRow_succ hown'
                 have e25 : Lib.byteCells xs ++ [.int .u8 125] = Lib.byteCells (textS M) := by rw [← HTX.out]; simp [Lib.byteCells]
                 rw [e25] at hown'
                 have kc := conv_row hown' (by rw [← HTX.out, List.length_append, HNN.out]; rfl)
                 have HG := Lib.hid hgrow
                 clear hown' hgrow hloc)
    have hKD1 : W1.heap[D]? = some (.deferred (some [])) := by
      have hlt : D < W.heap.size := (Array.getElem?_eq_some_iff.1 HKD.out).1
      refine (HG.out.block D (by simp; omega) (fun e2 => ?_)).trans ((Below.heap_alloc W _ D hlt).trans HKD.out)
      obtain ⟨_, c, fz, h⟩ := HRC.out D e2.symm
      rw [HKD.out] at h
      cases h
    refine ⟨by simp, .inl ⟨_, _, rfl, run_takeDeferred hKD1, ?_⟩⟩
    have hm := (HBB.out.trans ((KeepM.grown (S := TxS w.heap.size) (M := w.heap.size + 4) (World.grownBy_alloc W _ none) (fun r e => by cases e)).trans (KeepM.grown HG.out (fun r e => (HT.out.at_ r e).elim (fun h => Or.inr (Or.inl h)) Or.inl)))).trans (KeepM.putB W1 D _ (.deferred none) (by omega) hKD1 rfl rfl)
    exact ⟨_, results_tmp rfl _ _ _, rfl, HK.out.trans (hm.kept (by omega)) (fun _ _ h => h.elim) (fun i hi h => by unfold TxS at h; omega)⟩
  case stop =>
    rintro D c pre W _ _ h _
    exact h.elim

/-- The text of a set. -/
theorem text_any (w : World) (v : Value) (M : Nat) (h : SetV w v M) (hS : Small M) (hT : Tz w) (hP : Lib.TabBelow Tryd.prog w.heap.size w "internal/strconv.uint64pow10" .u64 Lib.pow10Tab) :
    Calls Tryd.prog 46 #[v] w fun e w' => e = .returned (.string ⟨(textS M).toArray⟩) ∧ Kept (fun _ => False) w w' := by
  obtain ⟨hv, hs, rfl, hw, hc, -⟩ := h.ex
  obtain ⟨va, vc, rfl⟩ := hw.form
  exact text_at w _ _ vc va M hs rfl rfl hw hc (hc.small hS) hT hP
end Go.Proofs.YtccanbjnbmihgaaDoor
/-
  slices.Equal of ints and of bytes.
-/
namespace Go.Proofs.YtccanbjnbmihgaaDoor
open Go.RowKit

theorem take_eq_succ' {α : Type} {d : α} {xs ys : List α} {k : Nat} (h : xs.take k = ys.take k) (hx : k < xs.length) (hy : k < ys.length) (he : xs.getD k d = ys.getD k d) : xs.take (k + 1) = ys.take (k + 1) := by
  rw [List.take_succ_eq_append_getElem hx, List.take_succ_eq_append_getElem hy, h]
  simp only [List.getD_eq_getElem?_getD, List.getElem?_eq_getElem hx, List.getElem?_eq_getElem hy, Option.getD_some] at he
  rw [he]
theorem ints_form {w : World} {v : Value} {xs : List Int} (h : Ints w v xs) : ∃ a c, v = .slice a xs.length c ∧ xs.length ≤ maxLen ∧ ∀ i, i < xs.length → ∃ g off, a = some ⟨g, off, none⟩ ∧ g < w.heap.size ∧ w.cell? ⟨g, off + i, none⟩ = some (.int .i64 (xs.getD i 0)) := by
  rcases h with ⟨h, h2⟩ | ⟨g, off, cap, h, h1, h3, h4, h5⟩
  · exact ⟨none, 0, by rw [h, h2]; rfl, by rw [h2]; simp, fun i hi => by rw [h2] at hi; simp at hi⟩
  · exact ⟨_, _, h, by omega, fun i hi => ⟨g, off, rfl, h4, h5 i hi⟩⟩

theorem reads_form {w : World} {v : Value} {xs : List Nat} (h : Reads w v xs) : ∃ a c, v = .slice a xs.length c ∧ xs.length ≤ maxLen ∧ ∀ i, i < xs.length → ∃ g off, a = some ⟨g, off, none⟩ ∧ g < w.heap.size ∧ w.cell? ⟨g, off + i, none⟩ = some (.int .u8 (xs.getD i 0 : Nat)) := by
  rcases h with ⟨h, h2⟩ | ⟨g, off, cap, h, h1, h3, h4, h5⟩
  · exact ⟨none, 0, by rw [h, h2]; rfl, by rw [h2]; simp, fun i hi => by rw [h2] at hi; simp at hi⟩
  · exact ⟨_, _, h, by omega, fun i hi => ⟨g, off, rfl, h4, h5 i hi⟩⟩

set_option maxRecDepth 100000 in
set_option maxHeartbeats 1600000 in
theorem equali_any (w : World) (v u : Value) (xs ys : List Int) (hv : Ints w v xs) (hu : Ints w u ys) :
    Calls Tryd.prog 25 #[v, u] w fun e w' => e = .returned (.bool (decide (xs = ys))) ∧ Kept (fun _ => False) w w' := by
  obtain ⟨a, c, rfl, hm, hx⟩ := ints_form hv
  obtain ⟨a', c', rfl, hm', hy⟩ := ints_form hu
  have HX := Lib.hid hx; have HY := Lib.hid hy
  clear hx hy hv hu
  have hm1 : xs.length ≤ 9223372036854775807 := by unfold maxLen at hm; omega
  obtain ⟨n, hn⟩ : ∃ n, n = xs.length := ⟨_, rfl⟩
  obtain ⟨m, hmm⟩ : ∃ m, m = ys.length := ⟨_, rfl⟩
  rw [← hn, ← hmm]
  by_cases hne : n = m
  · have hyl : ys.length = n := by omega
    subst hne
    clear hmm
    go_enter Tryd.func25, Tryd.ntmps25
    rw [← hn] at hm1
    have HN := Lib.hid hn; have HYL := Lib.hid hyl; clear hn hyl hm hm'
    go_wp2_with fail
    go_loopw [13] (fun iv wr => ∃ k : Nat, k ≤ n ∧ iv = .int .i64 k ∧ Hid (xs.take k = ys.take k) ∧ Kept (fun _ => False) w wr) (fun iv _ => n - (intOf iv).toNat)
    case atStart => exact ⟨0, Nat.zero_le _, rfl, rfl, Kept.refl _ _⟩
    case round =>
      obtain ⟨k, hk, rfl, ht, hkw⟩ := hrel
      by_cases hlt : k < n
      · have hlt' : (k : Int) < (n : Int) := by omega
        have hk0 : (0 : Int) ≤ (k : Int) := by omega
        obtain ⟨g, off, rfl, hg, hc⟩ := HX.out k (by rw [← HN.out]; exact hlt)
        obtain ⟨g', off', rfl, hg', hc'⟩ := HY.out k (by rw [HYL.out]; exact hlt)
        obtain ⟨x, hx⟩ : ∃ x, x = xs.getD k 0 := ⟨_, rfl⟩
        obtain ⟨y, hy⟩ : ∃ y, y = ys.getD k 0 := ⟨_, rfl⟩
        rw [← hx] at hc
        rw [← hy] at hc'
        have c1 := (hkw.cell (p := ⟨g, off + k, none⟩) hg (fun h => h)).trans hc
        have c2 := (hkw.cell (p := ⟨g', off' + k, none⟩) hg' (fun h => h)).trans hc'
        have HX1 := Lib.hid hx; have HY1 := Lib.hid hy; clear hx hy hc hc'
        by_cases hxy : x = y
        · subst hxy
          go_wp2_with fail
          go_quiet (fail)
          go_wp2_with fail
          go_roundw
          case rel => exact ⟨k + 1, by omega, by go_num, take_eq_succ' ht.out (by rw [← HN.out]; exact hlt) (by rw [HYL.out]; exact hlt) (by rw [← HX1.out, ← HY1.out]), hkw.drewN _⟩
          case measure => simp [intOf]; omega
        · have hb : ((x : Int) == (y : Int)) = false := by simp; omega
          go_wp2_with fail
          go_quiet (fail)
          go_wp2_with fail
          go_ret
          refine ⟨?_, hkw.drewN _⟩
          have : decide (xs = ys) = false := by
            simp only [decide_eq_false_iff_not]
            intro e
            exact hxy (by rw [HX1.out, HY1.out, e])
          rw [this]; rfl
      · obtain rfl : k = n := by omega
        go_wp2_with fail
        go_ret
        refine ⟨?_, hkw⟩
        have h := ht.out
        rw [List.take_of_length_le (by rw [← HN.out]; exact Nat.le_refl _), List.take_of_length_le (by rw [HYL.out]; exact Nat.le_refl _)] at h
        rw [show decide (xs = ys) = true by simpa using h]; rfl
  · have hd : decide (xs = ys) = false := by
      simp only [decide_eq_false_iff_not]
      intro e
      exact hne (by rw [hn, hmm, e])
    rw [hd]
    have hb : ((n : Int) == (m : Int)) = false := by simp; omega
    clear hd hn hmm hm1 hm hm'
    go_enter Tryd.func25, Tryd.ntmps25
    go_wp2_with fail
    go_ret
    exact ⟨rfl, Kept.refl _ _⟩


set_option maxRecDepth 100000 in
set_option maxHeartbeats 1600000 in
theorem equalb_any (w : World) (v u : Value) (xs ys : List Nat) (hv : Reads w v xs) (hu : Reads w u ys) :
    Calls Tryd.prog 39 #[v, u] w fun e w' => e = .returned (.bool (decide (xs = ys))) ∧ Kept (fun _ => False) w w' := by
  obtain ⟨a, c, rfl, hm, hx⟩ := reads_form hv
  obtain ⟨a', c', rfl, hm', hy⟩ := reads_form hu
  have HX := Lib.hid hx; have HY := Lib.hid hy
  clear hx hy hv hu
  have hm1 : xs.length ≤ 9223372036854775807 := by unfold maxLen at hm; omega
  obtain ⟨n, hn⟩ : ∃ n, n = xs.length := ⟨_, rfl⟩
  obtain ⟨m, hmm⟩ : ∃ m, m = ys.length := ⟨_, rfl⟩
  rw [← hn, ← hmm]
  by_cases hne : n = m
  · have hyl : ys.length = n := by omega
    subst hne
    clear hmm
    go_enter Tryd.func39, Tryd.ntmps39
    rw [← hn] at hm1
    have HN := Lib.hid hn; have HYL := Lib.hid hyl; clear hn hyl hm hm'
    go_wp2_with fail
    go_loopw [13] (fun iv wr => ∃ k : Nat, k ≤ n ∧ iv = .int .i64 k ∧ Hid (xs.take k = ys.take k) ∧ Kept (fun _ => False) w wr) (fun iv _ => n - (intOf iv).toNat)
    case atStart => exact ⟨0, Nat.zero_le _, rfl, rfl, Kept.refl _ _⟩
    case round =>
      obtain ⟨k, hk, rfl, ht, hkw⟩ := hrel
      by_cases hlt : k < n
      · have hlt' : (k : Int) < (n : Int) := by omega
        have hk0 : (0 : Int) ≤ (k : Int) := by omega
        obtain ⟨g, off, rfl, hg, hc⟩ := HX.out k (by rw [← HN.out]; exact hlt)
        obtain ⟨g', off', rfl, hg', hc'⟩ := HY.out k (by rw [HYL.out]; exact hlt)
        obtain ⟨x, hx⟩ : ∃ x, x = xs.getD k 0 := ⟨_, rfl⟩
        obtain ⟨y, hy⟩ : ∃ y, y = ys.getD k 0 := ⟨_, rfl⟩
        rw [← hx] at hc
        rw [← hy] at hc'
        have c1 := (hkw.cell (p := ⟨g, off + k, none⟩) hg (fun h => h)).trans hc
        have c2 := (hkw.cell (p := ⟨g', off' + k, none⟩) hg' (fun h => h)).trans hc'
        have HX1 := Lib.hid hx; have HY1 := Lib.hid hy; clear hx hy hc hc'
        by_cases hxy : x = y
        · subst hxy
          go_wp2_with fail
          go_quiet (fail)
          go_wp2_with fail
          go_roundw
          case rel => exact ⟨k + 1, by omega, by go_num, take_eq_succ' ht.out (by rw [← HN.out]; exact hlt) (by rw [HYL.out]; exact hlt) (by rw [← HX1.out, ← HY1.out]), hkw.drewN _⟩
          case measure => simp [intOf]; omega
        · have hb : ((x : Int) == (y : Int)) = false := by simp; omega
          go_wp2_with fail
          go_quiet (fail)
          go_wp2_with fail
          go_ret
          refine ⟨?_, hkw.drewN _⟩
          have : decide (xs = ys) = false := by
            simp only [decide_eq_false_iff_not]
            intro e
            exact hxy (by rw [HX1.out, HY1.out, e])
          rw [this]; rfl
      · obtain rfl : k = n := by omega
        go_wp2_with fail
        go_ret
        refine ⟨?_, hkw⟩
        have h := ht.out
        rw [List.take_of_length_le (by rw [← HN.out]; exact Nat.le_refl _), List.take_of_length_le (by rw [HYL.out]; exact Nat.le_refl _)] at h
        rw [show decide (xs = ys) = true by simpa using h]; rfl
  · have hd : decide (xs = ys) = false := by
      simp only [decide_eq_false_iff_not]
      intro e
      exact hne (by rw [hn, hmm, e])
    rw [hd]
    have hb : ((n : Int) == (m : Int)) = false := by simp; omega
    clear hd hn hmm hm1 hm hm'
    go_enter Tryd.func39, Tryd.ntmps39
    go_wp2_with fail
    go_ret
    exact ⟨rfl, Kept.refl _ _⟩


end Go.Proofs.YtccanbjnbmihgaaDoor
/-
  arbaclaw12.awake: the chapter's examples hold.
-/
namespace Go.Proofs.YtccanbjnbmihgaaDoor
open Go.RowKit
set_option linter.unusedVariables false
set_option linter.unusedSimpArgs false

/-- The library's tables that a set's text reads. -/
structure Lb2 (w : World) : Prop where
  tz : Tz w
  pow : Lib.TabIs Tryd.prog w "internal/strconv.uint64pow10" .u64 Lib.pow10Tab
theorem lb2_cell {a b : World} (hb : Below a.heap.size a b) {p : Addr} {v : Value} (h : a.cell? p = some v) : b.cell? p = some v :=
  (hb.cell (World.block_lt_of_cell? a _ h)).trans h
theorem Lb2.kept {a b : World} (h : Lb2 a) (hk : Kept (fun _ => False) a b) : Lb2 b := by
  have hb : Below a.heap.size a b := hk.below (Nat.le_refl _) (fun _ h => h.elim)
  exact ⟨⟨Nat.lt_of_lt_of_le h.tz.lt hb.size, fun j hj => lb2_cell hb (h.tz.tab j hj)⟩, (Lib.tabBelow_of_tabIs h.pow) b hb⟩
theorem Lb2.tabP {w : World} (h : Lb2 w) : Lib.TabBelow Tryd.prog w.heap.size w "internal/strconv.uint64pow10" .u64 Lib.pow10Tab := Lib.tabBelow_of_tabIs h.pow

theorem bv_getDm (xs : List Nat) (i : Nat) (h : i < xs.length) : (bv xs)[i]? = some (.int .u8 (xs.getD i 0 : Nat)) := by simp [bv, List.getD, h]
theorem rd_lit (w : World) (cs : Array Value) (T : TypeId) (xs : List Nat) (n : Nat) (hn : n = xs.length) (hcs : cs.toList = bv xs) (hm : xs.length ≤ maxLen) :
    Reads (w.alloc (.cells cs T)) (.slice (some ⟨w.heap.size, 0, none⟩) n n) xs := by
  subst hn
  refine Or.inr ⟨w.heap.size, 0, xs.length, rfl, Nat.le_refl _, hm, by simp, fun i hi => ?_⟩
  rw [Nat.zero_add, cell_of_row _ w.heap.size i cs T (0, 0) (heap_alloc_new w _), ← Array.getElem?_toList, hcs, bv_getDm xs i hi]
theorem it_lit (w : World) (cs : Array Value) (T : TypeId) (xs : List Int) (n : Nat) (hn : n = xs.length) (hcs : cs.toList = xs.map (Value.int .i64)) (hm : xs.length ≤ maxLen) :
    Ints (w.alloc (.cells cs T)) (.slice (some ⟨w.heap.size, 0, none⟩) n n) xs := by
  subst hn
  refine Or.inr ⟨w.heap.size, 0, xs.length, rfl, Nat.le_refl _, hm, by simp, fun i hi => ?_⟩
  rw [Nat.zero_add, cell_of_row _ w.heap.size i cs T (0, 0) (heap_alloc_new w _), ← Array.getElem?_toList, hcs]
  simp [List.getD, hi]

theorem text_40 : textS 40 = [123, 51, 32, 53, 125] := by
  have e : memM 40 4096 = [3, 5] := by decide +kernel
  have e1 : Lib.itoa 3 = [51] := Lib.itoa_nonneg 3 |>.trans (Lib.decDigits_one (by omega))
  have e5 : Lib.itoa 5 = [53] := Lib.itoa_nonneg 5 |>.trans (Lib.decDigits_one (by omega))
  unfold textS
  rw [e]
  simp [txt, e1, e5]
theorem text_32 : textS 32 = [123, 53, 125] := by
  have e : memM 32 4096 = [5] := by decide +kernel
  have e5 : Lib.itoa 5 = [53] := Lib.itoa_nonneg 5 |>.trans (Lib.decDigits_one (by omega))
  unfold textS
  rw [e]
  simp [txt, e5]

def hA : Nat → List Ent := upd (fun _ => []) 2 (putR [] ⟨2, 5, 10⟩)
def hB : Nat → List Ent := upd hA 2 (putR (hA 2) ⟨2, 3, 7⟩)
def hC : Nat → List Ent := upd hB 2 (putR (hB 2) ⟨2, 3, 4⟩)
def hD : Nat → List Ent := upd (fun _ => []) 1 (putR [] ⟨1, 2, 300⟩)
theorem aw_u : untE (rowOf hB 2) 3 = (7, true) := by decide +kernel
theorem aw_1 : onM (rowOf hB 2) 7 = 40 := by decide +kernel
theorem aw_2 : onM (rowOf hB 2) 8 = 32 := by decide +kernel
theorem aw_3 : usersS hB 5 10 257 = [2] := by decide +kernel
theorem aw_4 : onM (rowOf hC 2) 7 = 32 := by decide +kernel
theorem aw_5 : (allE (fun u => (hC u).filter (keepE 8))).length = 1 := by decide +kernel
theorem aw_6 : bytesE (allE hD) = [1, 1, 2, 130, 44] := by decide +kernel
theorem small_40 : Small 40 := fun e he => Nat.lt_of_lt_of_le (show 40 < 2 ^ 6 by decide) (Nat.pow_le_pow_right (by omega) (by omega))
theorem small_32 : Small 32 := fun e he => Nat.lt_of_lt_of_le (show 32 < 2 ^ 6 by decide) (Nat.pow_le_pow_right (by omega) (by omega))

set_option maxRecDepth 100000 in
set_option maxHeartbeats 6400000 in
theorem awake12_any (w : World) (hL : Lb2 w) : Calls Tryd.prog 12 #[] w fun e w' => e = .returned (.bool true) ∧ Kept (fun _ => False) w w' := by
  have HL := Lib.hid hL
  clear hL
  go_enter Tryd.func12, Tryd.ntmps12
  go_wp2_with fail
  refine (mnew_any w).mono ?_
  rintro e w1 ⟨v1, rfl, b1, k1⟩
  have B1 := Lib.hid b1; have K1 := Lib.hid k1
  obtain ⟨p1, _, rfl, -, -⟩ := b1
  clear k1
  go_wp2_with fail
  refine (assign_any w1 _ 0 _ 2 5 10 B1.out (by omega) (by omega) (by omega) (by omega) (by omega) (by omega) (by omega)).mono ?_
  rintro e w2 ⟨v2, rfl, b2, k2⟩
  have B2 : Hid (BookV w2 v2 1 hA) := Lib.hid b2; have K2 := Lib.hid (K1.out.then k2)
  obtain ⟨p2, _, rfl, -, -⟩ := b2
  clear k2 K1 B1
  go_wp2_with fail
  refine (assign_any w2 _ 1 _ 2 3 7 B2.out (by omega) (by omega) (by omega) (by omega) (by omega) (by omega) (by omega)).mono ?_
  rintro e w3 ⟨v3, rfl, b3, k3⟩
  have B3 : Hid (BookV w3 v3 2 hB) := Lib.hid b3; have K3 := Lib.hid (K2.out.then k3)
  obtain ⟨p3, _, rfl, -, -⟩ := b3
  clear k3 K2 B2
  go_wp2_with fail
  refine (assign_any w3 _ 2 _ 2 3 4 B3.out (by omega) (by omega) (by omega) (by omega) (by omega) (by omega) (by omega)).mono ?_
  rintro e w4 ⟨v4, rfl, b4, k4⟩
  have B4 : Hid (BookV w4 v4 3 hC) := Lib.hid b4; have K4 := Lib.hid (K3.out.then k4)
  obtain ⟨p4, _, rfl, -, -⟩ := b4
  replace B3 := Lib.hid (B3.out.kept k4)
  clear k4 K3
  go_wp2_with fail
  refine (mnew_any w4).mono ?_
  rintro e w5 ⟨v5, rfl, b5, k5⟩
  have B5 := Lib.hid b5; have K5 := Lib.hid (K4.out.then k5)
  replace B3 := Lib.hid (B3.out.kept k5); replace B4 := Lib.hid (B4.out.kept k5)
  obtain ⟨p5, _, rfl, -, -⟩ := b5
  clear k5 K4
  go_wp2_with fail
  refine (assign_any w5 _ 0 _ 1 2 300 B5.out (by omega) (by omega) (by omega) (by omega) (by omega) (by omega) (by omega)).mono ?_
  rintro e w6 ⟨v6, rfl, b6, k6⟩
  have B6 : Hid (BookV w6 v6 1 hD) := Lib.hid b6; have K6 := Lib.hid (K5.out.then k6)
  replace B3 := Lib.hid (B3.out.kept k6); replace B4 := Lib.hid (B4.out.kept k6)
  obtain ⟨p6, _, rfl, -, -⟩ := b6
  clear k6 K5 B5
  go_wp2_with fail
  refine (until_any w6 _ 2 hB 2 3 B3.out (by omega)).mono ?_
  rw [aw_u]
  rintro e w7 ⟨rfl, k7⟩
  have K7 := Lib.hid (K6.out.then k7)
  replace B3 := Lib.hid (B3.out.kept k7); replace B4 := Lib.hid (B4.out.kept k7); replace B6 := Lib.hid (B6.out.kept k7)
  clear k7 K6
  go_wp2_with fail
  refine (on_any w7 _ 2 hB 2 7 B3.out (by omega)).mono ?_
  rw [aw_1]
  rintro e w8 ⟨v8, rfl, s8, _, k8⟩
  have K8 := Lib.hid (K7.out.then k8); have S8 := Lib.hid s8
  replace B3 := Lib.hid (B3.out.kept k8); replace B4 := Lib.hid (B4.out.kept k8); replace B6 := Lib.hid (B6.out.kept k8)
  clear k8 K7 s8
  go_wp2_with fail
  refine (text_any w8 _ 40 S8.out small_40 (HL.out.kept K8.out).tz (HL.out.kept K8.out).tabP).mono ?_
  rw [text_40]
  rintro e w9 ⟨rfl, k9⟩
  have K9 := Lib.hid (K8.out.then k9)
  replace B3 := Lib.hid (B3.out.kept k9); replace B4 := Lib.hid (B4.out.kept k9); replace B6 := Lib.hid (B6.out.kept k9)
  clear k9 K8 S8
  go_wp2_with fail
  refine (on_any w9 _ 2 hB 2 8 B3.out (by omega)).mono ?_
  rw [aw_2]
  rintro e w10 ⟨v10, rfl, s10, _, k10⟩
  have K10 := Lib.hid (K9.out.then k10); have S10 := Lib.hid s10
  replace B3 := Lib.hid (B3.out.kept k10); replace B4 := Lib.hid (B4.out.kept k10); replace B6 := Lib.hid (B6.out.kept k10)
  clear k10 K9 s10
  go_wp2_with fail
  refine (text_any w10 _ 32 S10.out small_32 (HL.out.kept K10.out).tz (HL.out.kept K10.out).tabP).mono ?_
  rw [text_32]
  rintro e w11 ⟨rfl, k11⟩
  have K11 := Lib.hid (K10.out.then k11)
  replace B3 := Lib.hid (B3.out.kept k11); replace B4 := Lib.hid (B4.out.kept k11); replace B6 := Lib.hid (B6.out.kept k11)
  clear k11 K10 S10
  go_wp2_with fail
  refine (users_any w11 _ 2 hB 5 10 B3.out (by omega)).mono ?_
  rw [aw_3]
  rintro e w12 ⟨v12, rfl, o12, k12⟩
  have K12 := Lib.hid (K11.out.then k12); have O12 := Lib.hid o12.ints
  replace B4 := Lib.hid (B4.out.kept k12); replace B6 := Lib.hid (B6.out.kept k12)
  clear k12 K11 o12 B3
  go_wp2_with fail
  refine (equali_any _ _ _ [2] [2] (O12.out.kept (Kept.alloc (fun _ => False) _ _) (fun _ _ h => h)) (it_lit w12 _ _ [2] 1 rfl rfl (by decide))).mono ?_
  rintro e w13 ⟨rfl, k13⟩
  have kk := (Kept.alloc (fun _ => False) w12 _).then k13
  have K13 := Lib.hid (K12.out.then kk)
  replace B4 := Lib.hid (B4.out.kept kk); replace B6 := Lib.hid (B6.out.kept kk)
  clear k13 K12 O12 kk
  go_wp2_with fail
  refine (on_any w13 _ 3 hC 2 7 B4.out (by omega)).mono ?_
  rw [aw_4]
  rintro e w14 ⟨v14, rfl, s14, _, k14⟩
  have K14 := Lib.hid (K13.out.then k14); have S14 := Lib.hid s14
  replace B4 := Lib.hid (B4.out.kept k14); replace B6 := Lib.hid (B6.out.kept k14)
  clear k14 K13 s14
  go_wp2_with fail
  refine (text_any w14 _ 32 S14.out small_32 (HL.out.kept K14.out).tz (HL.out.kept K14.out).tabP).mono ?_
  rw [text_32]
  rintro e w15 ⟨rfl, k15⟩
  have K15 := Lib.hid (K14.out.then k15)
  replace B4 := Lib.hid (B4.out.kept k15); replace B6 := Lib.hid (B6.out.kept k15)
  clear k15 K14 S14
  go_wp2_with fail
  refine (expire_any w15 _ 3 hC 8 B4.out (by omega)).mono ?_
  rintro e w16 ⟨v16, rfl, b16, k16⟩
  have K16 := Lib.hid (K15.out.then k16); have B16 := Lib.hid b16
  replace B6 := Lib.hid (B6.out.kept k16)
  clear k16 K15 b16 B4
  go_wp2_with fail
  refine (mlen_any w16 _ 3 _ B16.out (by omega)).mono ?_
  rw [aw_5]
  rintro e w17 ⟨rfl, rfl⟩
  clear B16
  go_wp2_with fail
  refine (mbytes_any w16 _ 1 hD B6.out (by omega)).mono ?_
  rw [aw_6]
  rintro e w18 ⟨v18, rfl, f18, k18⟩
  have K18 := Lib.hid (K16.out.then k18); have F18 := Lib.hid f18.reads
  clear k18 K16 f18 B6
  go_wp2_with fail
  refine (equalb_any _ _ _ [1, 1, 2, 130, 44] [1, 1, 2, 130, 44] (F18.out.kept (Kept.alloc (fun _ => False) _ _) (fun _ _ h => h)) (rd_lit w18 _ _ [1, 1, 2, 130, 44] 5 rfl rfl (by decide))).mono ?_
  rintro e w19 ⟨rfl, k19⟩
  have K19 := Lib.hid (K18.out.then ((Kept.alloc (fun _ => False) w18 _).then k19))
  clear k19 K18 F18
  go_wp2_with fail
  go_ret
  exact ⟨rfl, K19.out⟩
end Go.Proofs.YtccanbjnbmihgaaDoor
/-
  A slice of bytes that came in as an argument: it reads as bytes.
-/
namespace Go.Proofs.YtccanbjnbmihgaaDoor
open Go.RowKit

/-- A slice that came in is nil, or lies in memory. -/
theorem okWide_at {P : Program} {W : World} {base : Nat} {t e : TypeId} {a : Addr} {len cap : Nat} (ht : P.underlying t = some (.slice e)) (h : Value.okWide P W .any base t (.slice (some a) len cap)) :
    a.spot = none ∧ a.block < W.heap.size := by
  simp only [Value.okWide, ht, Cell.okWide, Cell.ok] at h
  obtain ⟨_, _, h⟩ := h
  obtain ⟨_, hs, row, cells, hsh, _⟩ := h
  refine ⟨hs, ?_⟩
  by_cases hb : a.block < W.heap.size
  · exact hb
  · exfalso
    unfold World.shape? at hsh
    rw [Array.getElem?_eq_none (by omega)] at hsh
    simp at hsh

/-- An argument of bytes. -/
structure InBytes (w : World) (v : Value) (xs : List Nat) : Prop where
  reads : Reads w v xs
  byte : ∀ b ∈ xs, b < 256

theorem in_bytes {P : Program} {W : World} {base : Nat} {t e : TypeId} {a : Option Addr} {len cap : Nat} {zs : List Int} (ht : P.underlying t = some (.slice e)) (h : Value.okWide P W .any base t (.slice a len cap))
    (hr : (a = none ∧ len = 0 ∧ cap = 0 ∧ zs = []) ∨ ∃ x, a = some x ∧ len ≤ cap ∧ cap ≤ maxLen ∧ zs.length = cap ∧ (∀ i, i < zs.length → W.cell? (x.add i) = some (.int .u8 (zs.getD i 0))) ∧ ∀ n ∈ zs, (Lit.int .u8 n).wf = true) :
    ∃ xs, InBytes W (.slice a len cap) xs := by
  rcases hr with ⟨rfl, rfl, rfl, rfl⟩ | ⟨x, rfl, hl, hm, hz, hc, hw⟩
  · exact ⟨[], Or.inl ⟨rfl, rfl⟩, by simp⟩
  · obtain ⟨hs, hb⟩ := okWide_at ht h
    obtain ⟨g, off, spot⟩ := x
    simp only at hs hb
    subst hs
    have hn : ∀ n ∈ zs, ∃ m : Nat, n = (m : Int) ∧ m < 256 := by
      intro n hn
      have := hw n hn
      simp [Lit.wf, IntKind.min, IntKind.max, IntKind.signed, IntKind.bits] at this
      exact ⟨n.toNat, by omega, by omega⟩
    have hlen : ((zs.take len).map Int.toNat).length = len := by simp; omega
    refine ⟨(zs.take len).map Int.toNat, Or.inr ⟨g, off, cap, by rw [hlen], by omega, hm, hb, fun i hi => ?_⟩, ?_⟩
    · rw [hlen] at hi
      have hadd : (⟨g, off, none⟩ : Addr).add i = ⟨g, off + i, none⟩ := by unfold Addr.add; split <;> simp_all
      have := hc i (by omega)
      rw [hadd] at this
      rw [this]
      have hiz : i < zs.length := by omega
      obtain ⟨m, hm1, hm2⟩ := hn (zs.getD i 0) (by simp [List.getD, hiz])
      have h1 : (List.map Int.toNat (List.take len zs)).getD i 0 = (zs.getD i 0).toNat := by
        simp [List.getD, hi, hiz]
      rw [h1, hm1]
      simp
    · intro b hb
      simp only [List.mem_map] at hb
      obtain ⟨n, hn1, rfl⟩ := hb
      obtain ⟨m, rfl, hm2⟩ := hn n (List.mem_of_mem_take hn1)
      simpa using hm2

theorem InBytes.kept {S : Nat → Prop} {a b : World} {v : Value} {xs : List Nat} (h : InBytes a v xs) (hk : Kept S a b) (hn : ∀ k, v.ownBlock = some k → ¬ S k) : InBytes b v xs := ⟨h.reads.kept hk hn, h.byte⟩

end Go.Proofs.YtccanbjnbmihgaaDoor
/-
  From the rows' condition (the library's tables read as listed) to what the walks of membership ask for.
-/
namespace Go.Proofs.YtccanbjnbmihgaaDoor
open Go.ChangeShapes Go.WideShapes Go.ChangeAt Go.RowKit
set_option maxRecDepth 100000

def laidB : List (String × DataW Unit) := [("math/bits.deBruijn32tab", Rows.laid_math_bits_deBruijn32tab), ("math/bits.deBruijn64tab", Rows.laid_math_bits_deBruijn64tab), ("internal/strconv.uint64pow10", Rows.laid_internal_strconv_uint64pow10)]
def tabZ : List Int := Lib.deBruijn64tab.map fun n : Nat => (n : Int)
theorem d_tz : (Rows.laid_math_bits_deBruijn64tab : DataW Unit) = Lib.tabData .u8 tabZ := by kernel_rfl
theorem d_pow : (Rows.laid_internal_strconv_uint64pow10 : DataW Unit) = Lib.tabData .u64 Lib.pow10Tab := by kernel_rfl

theorem tabIs_of_reads {P : Program} {W : World} {name : String} {k : IntKind} {zs : List Int} {g : Nat} {t e : TypeId} {n : Nat}
    (hg : P.globalNamed name = some g) (hty : (P.globals[g]?).map (·.type) = some t) (ht : P.underlying t = some (.array n e)) (he : P.underlying e = some (.int k)) (hce : P.cellsOf e = 1) (hct : P.cellsOf t = n)
    (h : Lib.VarReads P W name (Lib.tabData k zs)) : Lib.TabIs P W name k zs := by
  obtain ⟨g', t', cs, fuel, p, hg', ht', hvar, hd⟩ := h
  obtain rfl := Option.some.inj (hg.symm.trans hg')
  obtain rfl := Option.some.inj (hty.symm.trans ht')
  unfold Lib.TabIs
  rw [hvar, ← Lib.cells_of_tab ht he hce hct hd]

theorem gTz : Tryd.prog.globalNamed "math/bits.deBruijn64tab" = some 0 := by kernel_rfl
theorem lb2_of_laid {W : World} (h : laidMetH Tryd.prog laidB W) : Lb2 W := by
  rw [MakeChecks.laidMetH_plain _ _ _ (by kernel_rfl)] at h
  have r1 : Lib.VarReads Tryd.prog W "math/bits.deBruijn64tab" (Lib.tabData .u8 tabZ) := d_tz ▸ Lib.laidMet.reads h (.tail _ (.head _))
  have r2 : Lib.VarReads Tryd.prog W "internal/strconv.uint64pow10" (Lib.tabData .u64 Lib.pow10Tab) := d_pow ▸ Lib.laidMet.reads h (.tail _ (.tail _ (.head _)))
  have t1 := tabIs_of_reads gTz (t := 145) (by kernel_rfl) Tryd.underlying145 Tryd.underlying5 (by kernel_rfl) (by kernel_rfl) r1
  have hl : tabZ.length = 64 := by kernel_rfl
  have hl2 : Lib.deBruijn64tab.length = 64 := by kernel_rfl
  have hc : ∀ i, i < 64 → W.cell? ⟨0, i, none⟩ = some (.int .u8 (Lib.deBruijn64tab.getD i 0 : Nat)) := fun i hi => by
    rw [t1.cell gTz i (by omega)]
    have hi2 : i < Lib.deBruijn64tab.length := by omega
    simp [tabZ, List.getD, hi2]
  exact ⟨⟨World.block_lt_of_cell? W _ (hc 0 (by omega)), fun j hj => hc j (by omega)⟩,
    tabIs_of_reads (g := 1) (by kernel_rfl) (t := 153) (by kernel_rfl) Tryd.underlying153 Tryd.underlying53 (by kernel_rfl) (by kernel_rfl) r2⟩

/-- A heap in which the variables are laid as listed meets the condition. -/
theorem door_metB (os : Os) (args : Array Value) : laidMetH Tryd.prog laidB ((World.laidAll Tryd.prog os laidB).forCall (fun _ _ => 0) ⟨#[], args, []⟩).memory := by
  rw [MakeChecks.laidMetH_plain _ _ _ (by kernel_rfl)]
  exact laidMet_laidAll _ (by kernel_rfl) (by kernel_rfl)

theorem ownK : ownKnob Tryd.prog.godebug = none := by kernel_rfl
theorem laidOutK : laidOutB Tryd.prog = true := by kernel_rfl
end Go.Proofs.YtccanbjnbmihgaaDoor
/-
  arbacref12: before, active, Revoke, Expire, Assign.
-/
namespace Go.Proofs.YtccanbjnbmihgaaDoor
open Go.RowKit Go.Shelf
set_option linter.unusedVariables false
set_option linter.unusedSimpArgs false

theorem info_entR : (Tryd.prog.info? 31).map (fun i => (i.zero, i.size, i.bytes)) = some (some (.agg #[.int .i64 0, .int .i64 0, .int .i64 0]), 3, 24) := by kernel_rfl

/-- An append of one entry to a row of the reference's own. -/
theorem wpList_pushR {w : World} {ops : Array Oper} {rest : List Oper} {o : Oper} {a : Act} {Q : Exit → Act → World → Prop} (hw : Region.wanted o (yielded ops a.tmps) = true) (s x : Operand)
    (ho : o.op = .call { callee := .builtin .append, args := #[s, x], argTypes := #[26, 26] }) (hty : o.type = 26) (B : Nat) (v : Value) (acc : List Ent) (g : Nat) (z : Ent) (hd : a.eval s = v) (hs : a.eval x = .slice (some ⟨g, 0, none⟩) 1 1)
    (hown : OwnE 31 B w v acc) (hz : One w g z) (hl : acc.length ≤ 900000) (hB : B ≤ w.heap.size)
    (h : ∀ v' w', OwnE 31 B w' v' (acc ++ [z]) → Kept (fun k => v.ownBlock = some k) w w' → wpList Tryd.prog ops Q rest (a.put o.dst v') w') : wpList Tryd.prog ops Q (o :: rest) a w := by
  obtain ⟨a', c', w', hr, hf, hk⟩ := append_ents_run Tryd.underlying26 info_entR hown hz.ents (by simp; omega) hB
  exact wpList_appendI_run hw s x _ _ ho _ _ hd hs (by rw [hty]; exact hr) (h _ _ hf hk)
theorem OwnE.alloc {T : TypeId} {B : Nat} {w : World} {v : Value} {l : List Ent} (h : OwnE T B w v l) (o : Obj) : OwnE T B (w.alloc o) v l := World.ownsRow.alloc h o
theorem one_new (w : World) (x : Ent) (T : TypeId) : One (w.alloc (.cells #[.int .i64 x.u, .int .i64 x.r, .int .i64 x.t] T)) w.heap.size x := ⟨T, heap_alloc_new w _⟩
theorem one_new1 (w : World) (o : Obj) (x : Ent) (T : TypeId) : One ((w.alloc o).alloc (.cells #[.int .i64 x.u, .int .i64 x.r, .int .i64 x.t] T)) (w.heap.size + 1) x := by
  have := one_new (w.alloc o) x T
  rwa [show (w.alloc o).heap.size = w.heap.size + 1 by simp] at this
theorem filterE_take (p : Ent → Bool) (l : List Ent) (k : Nat) (hk : k < l.length) : (l.take (k + 1)).filter p = (l.take k).filter p ++ (if p (l.getD k ent0) then [l.getD k ent0] else []) := by
  rw [List.take_add_one, List.filter_append]
  simp [List.getD, hk]
  split <;> simp_all

set_option maxRecDepth 100000 in
set_option maxHeartbeats 1600000 in
theorem before_any (x y : Ent) (w : World) : Calls Tryd.prog 54 #[entV x, entV y] w fun e w' => e = .returned (.bool (bef x y)) ∧ Kept (fun _ => False) w w' := by
  unfold entV
  obtain ⟨xu, xr, xt⟩ := x
  obtain ⟨yu, yr, yt⟩ := y
  have HK := Lib.hid ((Kept.alloc (fun _ => False) w (.cells #[.int .i64 xu, .int .i64 xr, .int .i64 xt] 31)).then (Kept.alloc _ _ (.cells #[.int .i64 yu, .int .i64 yr, .int .i64 yt] 31)))
  by_cases h1 : xu < yu
  · have hb : bef ⟨xu, xr, xt⟩ ⟨yu, yr, yt⟩ = true := by unfold bef; simp; omega
    rw [hb]; clear hb
    go_enter Tryd.func54, Tryd.ntmps54
    go_wp2_with fail
    go_ret
    exact ⟨rfl, HK.out⟩
  · by_cases h2 : xu = yu
    · subst h2
      by_cases h3 : xr < yr
      · have hb : bef ⟨xu, xr, xt⟩ ⟨xu, yr, yt⟩ = true := by unfold bef; simp; omega
        rw [hb]; clear hb
        go_enter Tryd.func54, Tryd.ntmps54
        go_wp2_with fail
        go_ret
        exact ⟨rfl, HK.out⟩
      · have hb : bef ⟨xu, xr, xt⟩ ⟨xu, yr, yt⟩ = false := by unfold bef; simp; omega
        rw [hb]; clear hb
        go_enter Tryd.func54, Tryd.ntmps54
        go_wp2_with fail
        go_ret
        exact ⟨rfl, HK.out⟩
    · have hb : bef ⟨xu, xr, xt⟩ ⟨yu, yr, yt⟩ = false := by unfold bef; simp; omega
      rw [hb]; clear hb
      go_enter Tryd.func54, Tryd.ntmps54
      go_wp2_with fail
      go_ret
      exact ⟨rfl, HK.out⟩

set_option maxRecDepth 100000 in
set_option maxHeartbeats 3200000 in
theorem rexpire_any (w : World) (v : Value) (L : List Ent) (d : Int) (h : Ents w v L) (hl : L.length ≤ 800000) :
    Calls Tryd.prog 18 #[v, .int .i64 d] w fun e w' => ∃ v', e = .returned v' ∧ OwnE 31 w.heap.size w' v' (L.filter (keepE d)) ∧ Kept (fun _ => False) w w' := by
  obtain ⟨a, c, rfl, h1, h2⟩ := h.form
  have HE := Lib.hid h
  obtain ⟨N, hN⟩ : ∃ N, N = L.length := ⟨_, rfl⟩
  rw [← hN] at h1 HE ⊢
  have HN := Lib.hid hN
  unfold maxLen at h2
  have hNl : N ≤ 800000 := by omega
  clear h hN hl
  go_enter Tryd.func18, Tryd.ntmps18
  go_wp2_with fail
  go_loopw [5, 10] (fun ov iv wr => ∃ k : Nat, k ≤ N ∧ iv = .int .i64 k ∧ Hid (OwnE 31 w.heap.size wr ov ((L.take k).filter (keepE d))) ∧ Hid (Kept (fun _ => False) w wr)) (fun _ iv _ => N - (intOf iv).toNat)
  case atStart => exact ⟨0, by omega, rfl, Lib.hid (OwnE.nil _ _ _), Lib.hid (Kept.refl _ _)⟩
  case round =>
    obtain ⟨k, hk, rfl, ho, hkw⟩ := hrel
    by_cases hlt : k < N
    · have l1 : (k : Int) < (N : Int) := by omega
      have l0 : (0 : Int) ≤ (k : Int) := by omega
      obtain ⟨g, off, rfl, hg, hc⟩ := (HE.out.kept hkw.out (fun _ _ h => h)).at (k := k) (by have := HN.out; omega)
      have HS := Lib.hid (filterE_take (keepE d) L k (by have := HN.out; omega))
      have hfl : ((L.take k).filter (keepE d)).length ≤ 900000 := by
        have h3 := List.length_filter_le (keepE d) (L.take k)
        rw [List.length_take] at h3; omega
      generalize hx : L.getD k ent0 = x at hc HS
      obtain ⟨xu, xr, xt⟩ := x
      obtain ⟨c0, c1, c2⟩ := hc
      simp only at c0 c1 c2
      have HFl := Lib.hid hfl
      clear hx hfl
      generalize ((L.take k).filter (keepE d)) = acc at ho HS HFl
      obtain ⟨b0, b1, b2⟩ := box3c wr xu xr xt 31
      have HO2 := Lib.hid (ho.out.alloc (.cells #[.int .i64 xu, .int .i64 xr, .int .i64 xt] 31))
      have HK2 := Lib.hid (hkw.out.then (Kept.alloc (fun _ => False) wr (.cells #[.int .i64 xu, .int .i64 xr, .int .i64 xt] 31)))
      by_cases hd : xt < d
      · have hs : Hid (((L.take (k + 1)).filter (keepE d)) = acc) := by
          have e : keepE d ⟨xu, xr, xt⟩ = false := by unfold keepE; simp [hd]
          have := HS.out; rw [e] at this; exact Lib.hid (by simpa using this)
        have hd2 : ¬ d ≤ xt := by omega
        have HO3 : Hid (OwnE 31 w.heap.size (wr.alloc (.cells #[.int .i64 xu, .int .i64 xr, .int .i64 xt] 31)) u5 ((L.take (k + 1)).filter (keepE d))) := by rw [hs.out]; exact HO2
        clear HS hs
        go_wp2_with fail
        go_roundw
        case rel => first | exact ⟨k + 1, by omega, by go_num, HO3, HK2⟩ | ((repeat apply Exists.intro); exact ⟨⟨k + 1, by omega, by go_num, HO3, HK2⟩, rfl⟩)
        case measure => simp [intOf]; omega
      · have hs : Hid (((L.take (k + 1)).filter (keepE d)) = acc ++ [⟨xu, xr, xt⟩]) := by
          have e : keepE d ⟨xu, xr, xt⟩ = true := by unfold keepE; simp [hd]
          have := HS.out; rw [e] at this; exact Lib.hid (by simpa using this)
        clear HS
        have hd2 : d ≤ xt := by omega
        clear hd
        go_wp2_with (at_builtin
                     refine wpList_pushR (by rfl) _ _ rfl rfl w.heap.size _ _ (wr.heap.size + 1) ⟨xu, xr, xt⟩ rfl rfl (HO2.out.alloc _) (one_new1 wr _ ⟨xu, xr, xt⟩ _) HFl.out (Nat.le_trans HK2.out.size (Kept.alloc (fun _ => False) _ _).size) ?_
                     intro v' w3 o3 k3
                     have O3 : Hid (OwnE 31 w.heap.size w3 v' ((L.take (k + 1)).filter (keepE d))) := by rw [hs.out]; exact Lib.hid o3
                     have K3 : Hid (Kept (fun _ => False) w w3) := Lib.hid ((HK2.out.then (Kept.alloc _ _ _)).trans k3 (fun _ _ h => h) (fun i hi e => by have := (World.ownsRow.lt HO2.out i e).1; omega))
                     clear o3 k3)
        go_roundw
        case rel => first | exact ⟨k + 1, by omega, by go_num, O3, K3⟩ | ((repeat apply Exists.intro); exact ⟨⟨k + 1, by omega, by go_num, O3, K3⟩, rfl⟩)
        case measure => simp [intOf]; omega
    · obtain rfl : k = N := by omega
      have ho2 := ho.out
      rw [List.take_of_length_le (by have := HN.out; omega)] at ho2
      have HO := Lib.hid ho2
      clear ho2 ho
      go_wp2_with fail
      go_ret
      exact ⟨_, rfl, HO.out, hkw.out⟩
end Go.Proofs.YtccanbjnbmihgaaDoor
/-
  arbacref12: Revoke, Assign.
-/
namespace Go.Proofs.YtccanbjnbmihgaaDoor
open Go.RowKit Go.Shelf
set_option linter.unusedVariables false
set_option linter.unusedSimpArgs false

/-- What the reference's Revoke returns. -/
def RvkRes (w w' : World) (e : Ending) (L : List Ent) (u r : Int) : Prop :=
  ((L.filter (notE u r)).length = L.length ∧ e = .returned (.tuple #[.slice none 0 0, .int .i64 4])) ∨
  ((L.filter (notE u r)).length ≠ L.length ∧ ∃ v', e = .returned (.tuple #[v', .int .i64 0]) ∧ OwnE 31 w.heap.size w' v' (L.filter (notE u r)))

set_option maxRecDepth 100000 in
set_option maxHeartbeats 3200000 in
theorem rrevoke_any (w : World) (v : Value) (L : List Ent) (u r : Int) (h : Ents w v L) (hl : L.length ≤ 800000) :
    Calls Tryd.prog 16 #[v, .int .i64 u, .int .i64 r] w fun e w' => RvkRes w w' e L u r ∧ Kept (fun _ => False) w w' := by
  obtain ⟨a, c, rfl, h1, h2⟩ := h.form
  have HE := Lib.hid h
  obtain ⟨N, hN⟩ : ∃ N, N = L.length := ⟨_, rfl⟩
  rw [← hN] at h1 HE ⊢
  have HN := Lib.hid hN
  unfold maxLen at h2
  have hNl : N ≤ 800000 := by omega
  clear h hN hl
  go_enter Tryd.func16, Tryd.ntmps16
  go_wp2_with fail
  go_loopw [8, 13] (fun ov iv wr => ∃ k : Nat, k ≤ N ∧ iv = .int .i64 k ∧ Hid (OwnE 31 w.heap.size wr ov ((L.take k).filter (notE u r))) ∧ Hid (Kept (fun _ => False) w wr)) (fun _ iv _ => N - (intOf iv).toNat)
  case atStart => exact ⟨0, by omega, rfl, Lib.hid (OwnE.nil _ _ _), Lib.hid (Kept.refl _ _)⟩
  case round =>
    obtain ⟨k, hk, rfl, ho, hkw⟩ := hrel
    by_cases hlt : k < N
    · have l1 : (k : Int) < (N : Int) := by omega
      have l0 : (0 : Int) ≤ (k : Int) := by omega
      obtain ⟨g, off, rfl, hg, hc⟩ := (HE.out.kept hkw.out (fun _ _ h => h)).at (k := k) (by have := HN.out; omega)
      have HS := Lib.hid (filterE_take (notE u r) L k (by have := HN.out; omega))
      have hfl : ((L.take k).filter (notE u r)).length ≤ 900000 := by
        have h3 := List.length_filter_le (notE u r) (L.take k)
        rw [List.length_take] at h3; omega
      generalize hx : L.getD k ent0 = x at hc HS
      obtain ⟨xu, xr, xt⟩ := x
      obtain ⟨c0, c1, c2⟩ := hc
      simp only at c0 c1 c2
      have HFl := Lib.hid hfl
      clear hx hfl
      generalize ((L.take k).filter (notE u r)) = acc at ho HS HFl
      obtain ⟨b0, b1, b2⟩ := box3c wr xu xr xt 31
      have HO2 := Lib.hid (ho.out.alloc (.cells #[.int .i64 xu, .int .i64 xr, .int .i64 xt] 31))
      have HK2 := Lib.hid (hkw.out.then (Kept.alloc (fun _ => False) wr (.cells #[.int .i64 xu, .int .i64 xr, .int .i64 xt] 31)))
      by_cases hd : xu = u
      · by_cases hd2 : xr = r
        · skip
          have hs : Hid (((L.take (k + 1)).filter (notE u r)) = acc) := by
            have e : notE u r ⟨xu, xr, xt⟩ = false := by unfold notE; simp [hd, hd2]
            have := HS.out; rw [e] at this; exact Lib.hid (by simpa using this)
          have HO3 : Hid (OwnE 31 w.heap.size (wr.alloc (.cells #[.int .i64 xu, .int .i64 xr, .int .i64 xt] 31)) u8 ((L.take (k + 1)).filter (notE u r))) := by rw [hs.out]; exact HO2
          clear HS hs
          subst hd; subst hd2
          go_wp2_with fail
          go_roundw
          case rel => first | exact ⟨k + 1, by omega, by go_num, HO3, HK2⟩ | ((repeat apply Exists.intro); exact ⟨⟨k + 1, by omega, by go_num, HO3, HK2⟩, rfl⟩)
          case measure => simp [intOf]; omega
        · skip
          have hs : Hid (((L.take (k + 1)).filter (notE u r)) = acc ++ [⟨xu, xr, xt⟩]) := by
            have e : notE u r ⟨xu, xr, xt⟩ = true := by unfold notE; simp; omega
            have := HS.out; rw [e] at this; exact Lib.hid (by simpa using this)
          have HT : Hid (∀ W v', OwnE 31 w.heap.size W v' (acc ++ [⟨xu, xr, xt⟩]) → OwnE 31 w.heap.size W v' ((L.take (k + 1)).filter (notE u r))) := Lib.hid fun W v' h => by rw [hs.out]; exact h
          clear HS hs
          subst hd
          go_wp2_with (at_builtin
                       refine wpList_pushR (by rfl) _ _ rfl rfl w.heap.size _ _ (wr.heap.size + 1) ⟨xu, xr, xt⟩ rfl rfl (HO2.out.alloc _) (one_new1 wr _ ⟨xu, xr, xt⟩ _) HFl.out (Nat.le_trans HK2.out.size (Kept.alloc (fun _ => False) _ _).size) ?_
                       intro v' w3 o3 k3
                       have O3 := Lib.hid (HT.out w3 v' o3)
                       have K3 : Hid (Kept (fun _ => False) w w3) := Lib.hid ((HK2.out.then (Kept.alloc _ _ _)).trans k3 (fun _ _ h => h) (fun i hi e => by have := (World.ownsRow.lt HO2.out i e).1; omega))
                       clear o3 k3)
          go_roundw
          case rel => first | exact ⟨k + 1, by omega, by go_num, O3, K3⟩ | ((repeat apply Exists.intro); exact ⟨⟨k + 1, by omega, by go_num, O3, K3⟩, rfl⟩)
          case measure => simp [intOf]; omega
      · skip
        have hs : Hid (((L.take (k + 1)).filter (notE u r)) = acc ++ [⟨xu, xr, xt⟩]) := by
          have e : notE u r ⟨xu, xr, xt⟩ = true := by unfold notE; simp; omega
          have := HS.out; rw [e] at this; exact Lib.hid (by simpa using this)
        have HT : Hid (∀ W v', OwnE 31 w.heap.size W v' (acc ++ [⟨xu, xr, xt⟩]) → OwnE 31 w.heap.size W v' ((L.take (k + 1)).filter (notE u r))) := Lib.hid fun W v' h => by rw [hs.out]; exact h
        clear HS hs
        go_wp2_with (at_builtin
                     refine wpList_pushR (by rfl) _ _ rfl rfl w.heap.size _ _ (wr.heap.size + 1) ⟨xu, xr, xt⟩ rfl rfl (HO2.out.alloc _) (one_new1 wr _ ⟨xu, xr, xt⟩ _) HFl.out (Nat.le_trans HK2.out.size (Kept.alloc (fun _ => False) _ _).size) ?_
                     intro v' w3 o3 k3
                     have O3 := Lib.hid (HT.out w3 v' o3)
                     have K3 : Hid (Kept (fun _ => False) w w3) := Lib.hid ((HK2.out.then (Kept.alloc _ _ _)).trans k3 (fun _ _ h => h) (fun i hi e => by have := (World.ownsRow.lt HO2.out i e).1; omega))
                     clear o3 k3)
        go_roundw
        case rel => first | exact ⟨k + 1, by omega, by go_num, O3, K3⟩ | ((repeat apply Exists.intro); exact ⟨⟨k + 1, by omega, by go_num, O3, K3⟩, rfl⟩)
        case measure => simp [intOf]; omega
    · obtain rfl : k = N := by omega
      have ho2 := ho.out
      rw [List.take_of_length_le (by have := HN.out; omega)] at ho2
      have HO := Lib.hid ho2
      obtain ⟨oa, oc, hof, _, _⟩ := ho2.form
      obtain ⟨m, hm⟩ : ∃ m, m = (L.filter (notE u r)).length := ⟨_, rfl⟩
      rw [← hm] at hof
      subst hof
      have HM := Lib.hid hm
      clear ho2 ho hm
      by_cases he : m = k
      · subst he
        go_wp2_with fail
        go_ret2
        exact ⟨Or.inl ⟨by rw [← HM.out, ← HN.out], rfl⟩, hkw.out⟩
      · have he2 : ¬ ((m : Int) = (k : Int)) := by omega
        go_wp2_with fail
        go_ret2
        exact ⟨Or.inr ⟨by rw [← HM.out, ← HN.out]; exact he, _, rfl, HO.out⟩, hkw.out⟩
end Go.Proofs.YtccanbjnbmihgaaDoor
/-
  arbacref12: Assign.
-/
namespace Go.Proofs.YtccanbjnbmihgaaDoor
open Go.RowKit Go.Shelf
set_option linter.unusedVariables false
set_option linter.unusedSimpArgs false

theorem OwnE.lowR {T : TypeId} {B B' : Nat} {w : World} {v : Value} {l : List Ent} (h : OwnE T B w v l) (hb : B' ≤ B) : OwnE T B' w v l := by
  unfold OwnE at h ⊢
  refine ⟨h.1, ?_⟩
  rcases h.2 with h | ⟨g, cap, cur, h1, h2, h3⟩
  · exact Or.inl h
  · exact Or.inr ⟨g, cap, cur, h1, by omega, h3⟩
/-- The entries taken so far, the new one among them as soon as its place has come. -/
def insTo (x : Ent) (l : List Ent) : List Ent := if l.any (bef x) then insE x l else l
theorem insE_len (x : Ent) : ∀ l : List Ent, (insE x l).length = l.length + 1
  | [] => rfl
  | y :: t => by
    rw [insE]
    split
    · simp
    · rw [List.length_cons, insE_len x t, List.length_cons]
theorem insTo_len (x : Ent) (l : List Ent) : (insTo x l).length ≤ l.length + 1 := by
  unfold insTo
  split
  · rw [insE_len]; exact Nat.le_refl _
  · omega
theorem insE_any (x : Ent) (m : List Ent) : ∀ l : List Ent, l.any (bef x) = true → insE x (l ++ m) = insE x l ++ m
  | [], h => by simp at h
  | y :: t, h => by
    rw [List.cons_append, insE, insE]
    by_cases hb : bef x y = true
    · rw [if_pos hb, if_pos hb]; rfl
    · rw [if_neg hb, if_neg hb, insE_any x m t (by simpa [hb] using h)]; rfl
theorem not_any {x : Ent} {l : List Ent} (h : l.any (bef x) = false) : ∀ y ∈ l, bef x y = false := fun y hy => by
  have := List.any_eq_false.1 h y hy
  simpa using this
theorem insTo_step (x : Ent) (R : List Ent) (k : Nat) (hk : k < R.length) :
    insTo x (R.take (k + 1)) = match (R.take k).any (bef x), bef x (R.getD k ent0) with
      | true, _ => insTo x (R.take k) ++ [R.getD k ent0]
      | false, true => insTo x (R.take k) ++ [x] ++ [R.getD k ent0]
      | false, false => insTo x (R.take k) ++ [R.getD k ent0] := by
  have e : R.take (k + 1) = R.take k ++ [R.getD k ent0] := by rw [List.take_add_one]; simp [List.getD, hk]
  rw [e]
  generalize R.getD k ent0 = y
  generalize R.take k = l
  unfold insTo
  cases ha : l.any (bef x) with
  | true => simp [ha, insE_any x [y] l ha]
  | false =>
    cases hb : bef x y with
    | true =>
      have : (l ++ [y]).any (bef x) = true := by simp [hb]
      simp only [this, if_true]
      rw [insE_skip x [y] l (not_any ha), insE, if_pos hb]
      simp
    | false =>
      have : (l ++ [y]).any (bef x) = false := by rw [List.any_append, ha]; simp [hb]
      simp [this]
theorem any_step (x : Ent) (R : List Ent) (k : Nat) (hk : k < R.length) : (R.take (k + 1)).any (bef x) = ((R.take k).any (bef x) || bef x (R.getD k ent0)) := by
  have e : R.take (k + 1) = R.take k ++ [R.getD k ent0] := by rw [List.take_add_one]; simp [List.getD, hk]
  rw [e, List.any_append]; simp

set_option maxRecDepth 100000 in
set_option maxHeartbeats 4000000 in
theorem rassign_any (w : World) (v : Value) (L : List Ent) (xu xr xt : Int) (h : Ents w v L) (hl : L.length ≤ 700000) (hx : asgErr xu xr xt = 0) :
    Calls Tryd.prog 20 #[v, .agg #[.int .i64 xu, .int .i64 xr, .int .i64 xt]] w fun e w' => ∃ v', e = .returned (.tuple #[v', .int .i64 0]) ∧ OwnE 31 w.heap.size w' v' (asgE L ⟨xu, xr, xt⟩) ∧ Kept (fun _ => False) w w' := by
  obtain ⟨a, c, rfl, h1, h2⟩ := h.form
  have hxb : (1 ≤ xu ∧ xu ≤ 256) ∧ (1 ≤ xr ∧ xr ≤ 63) ∧ 0 ≤ xt ∧ xt ≤ 30000 := by
    unfold asgErr at hx
    split at hx
    · simp at hx
    · split at hx
      · simp at hx
      · omega
  obtain ⟨⟨x1, x2⟩, ⟨x3, x4⟩, x5, x6⟩ := hxb
  unfold asgE
  obtain ⟨R, hR⟩ : ∃ R, R = L.filter (notE xu xr) := ⟨_, rfl⟩
  rw [show L.filter (notE (⟨xu, xr, xt⟩ : Ent).u (⟨xu, xr, xt⟩ : Ent).r) = R from hR.symm]
  have HE := Lib.hid (h.kept (Kept.alloc (fun _ => False) w (.cells #[.int .i64 xu, .int .i64 xr, .int .i64 xt] 31)) (fun _ _ h => h))
  have HBX0 := Lib.hid (One.at (one_new w ⟨xu, xr, xt⟩ 31))
  obtain ⟨N, hN⟩ : ∃ N, N = L.length := ⟨_, rfl⟩
  rw [← hN] at h1 HE ⊢
  have HN := Lib.hid hN; have HR := Lib.hid hR
  unfold maxLen at h2
  have hNl : N ≤ 700000 := by omega
  have HKA : Hid (Kept (fun _ => False) w (w.alloc (.cells #[.int .i64 xu, .int .i64 xr, .int .i64 xt] 31))) := Lib.hid (Kept.alloc _ _ _)
  clear h hN hl hx hR
  have hRl : R.length ≤ N := by rw [HR.out, HN.out]; exact List.length_filter_le _ _
  go_enter Tryd.func20, Tryd.ntmps20
  go_wp2_with fail
  generalize w.alloc (.cells #[.int .i64 xu, .int .i64 xr, .int .i64 xt] 31) = wB at *
  obtain ⟨P, hP⟩ : ∃ P, P = w.heap.size := ⟨_, rfl⟩
  rw [← hP] at HBX0 ⊢
  have hPw : w.heap.size ≤ P := by omega
  have HBX := HBX0
  refine (rrevoke_any wB _ L xu xr HE.out (by have := HN.out; omega)).mono ?_
  rintro e w1 ⟨hres, k1⟩
  have K1 := Lib.hid k1
  have K1b : Hid (Kept (fun _ => False) w w1) := Lib.hid (HKA.out.then k1)
  have K1z : Hid (w.heap.size ≤ w1.heap.size) := Lib.hid K1b.out.size
  clear k1 hP
  rcases hres with ⟨hlen, rfl⟩ | ⟨hlen, rv, rfl, orv⟩
  · have hRL : R = L := by rw [HR.out]; exact List.filter_eq_self.2 (fun y hy => by
      have := (List.length_filter_eq_length_iff (p := notE xu xr) (l := L)).1 hlen
      exact this y hy)
    have HEr : Hid (Ents w1 (.slice a N c) R) := by rw [hRL]; exact Lib.hid (HE.out.kept K1.out (fun _ _ h => h))
    have HRL : Hid (N = R.length) := by rw [hRL]; exact HN
    clear hlen hRL
    go_wp2_with fail
    go_loopw [8, 9, 52] (fun ov dv iv wr => ∃ k : Nat, k ≤ N ∧ iv = .int .i64 k ∧ dv = .bool ((R.take k).any (bef ⟨xu, xr, xt⟩)) ∧ Hid (OwnE 31 w1.heap.size wr ov (insTo ⟨xu, xr, xt⟩ (R.take k))) ∧ Hid (Kept (fun _ => False) w1 wr)) (fun _ _ iv _ => N - (intOf iv).toNat)
    case atStart => exact ⟨0, by omega, rfl, by simp, Lib.hid (by rw [List.take_zero]; exact OwnE.nil _ _ _), Lib.hid (Kept.refl _ _)⟩
    case round =>
      obtain ⟨k, hk, rfl, rfl, ho, hkw⟩ := hrel
      have hbox := fun W (kw : Kept (fun _ => False) w1 W) => (HBX.out.kept (K1.out.then kw) (fun h => h))
      have HB2 := Lib.hid hbox
      clear hbox
      have hil : (insTo ⟨xu, xr, xt⟩ (R.take k)).length ≤ k + 1 := Nat.le_trans (insTo_len _ _) (by rw [List.length_take]; omega)
      by_cases hlt : k < N
      · have l1 : (k : Int) < (N : Int) := by omega
        have l0 : (0 : Int) ≤ (k : Int) := by omega
        obtain ⟨g, off, rfl, hg, hc⟩ := (HEr.out.kept hkw.out (fun _ _ h => h)).at (k := k) (by have := HRL.out; omega)
        have hst := insTo_step ⟨xu, xr, xt⟩ R k (by have := HRL.out; omega)
        have han := any_step ⟨xu, xr, xt⟩ R k (by have := HRL.out; omega)
        generalize hy : R.getD k ent0 = y at hc hst han
        obtain ⟨yu, yr, yt⟩ := y
        obtain ⟨c0, c1, c2⟩ := hc
        simp only at c0 c1 c2
        have HST := Lib.hid hst; have HAN := Lib.hid han; have HIL := Lib.hid hil
        clear hy hst han hg hil
        generalize insTo ⟨xu, xr, xt⟩ (R.take k) = acc at ho HST HIL
        have hk2 : Kept (fun _ => False) w1 (wr.alloc (.cells #[.int .i64 yu, .int .i64 yr, .int .i64 yt] 31)) := hkw.out.then (Kept.alloc _ _ _)
        have HK2 := Lib.hid hk2
        have HO2 := Lib.hid (ho.out.alloc (.cells #[.int .i64 yu, .int .i64 yr, .int .i64 yt] 31))
        obtain ⟨b0, b1, b2⟩ := box3c wr yu yr yt 31
        obtain ⟨d0, d1, d2⟩ := HB2.out _ hk2
        simp only [Nat.zero_add] at d0 d1 d2
        have hQ : wr.heap.size < (wr.alloc (.cells #[.int .i64 yu, .int .i64 yr, .int .i64 yt] 31)).heap.size := by simp
        obtain ⟨dn, hdn⟩ : ∃ dn, dn = (R.take k).any (bef ⟨xu, xr, xt⟩) := ⟨_, rfl⟩
        rw [← hdn] at HST HAN ⊢
        obtain ⟨bb, hbb⟩ : ∃ bb, bb = bef ⟨xu, xr, xt⟩ ⟨yu, yr, yt⟩ := ⟨_, rfl⟩
        rw [← hbb] at HST HAN
        have HBF : Hid (∀ W, Calls Tryd.prog 54 #[.agg #[.int .i64 xu, .int .i64 xr, .int .i64 xt], .agg #[.int .i64 yu, .int .i64 yr, .int .i64 yt]] W fun e w' => e = .returned (.bool bb) ∧ Kept (fun _ => False) W w') := Lib.hid fun W => by rw [hbb]; exact before_any ⟨xu, xr, xt⟩ ⟨yu, yr, yt⟩ W
        have HNQ : Hid (u8.ownBlock ≠ some wr.heap.size) := Lib.hid fun e => by have := (World.ownsRow.lt ho.out _ e).2; omega
        clear hdn hbb hk2 ho
        have hw1 : w1.heap.size ≤ wr.heap.size := hkw.out.size
        cases dn
        · cases bb
          · have HT : Hid (∀ W v', OwnE 31 w1.heap.size W v' (acc ++ [⟨yu, yr, yt⟩]) → OwnE 31 w1.heap.size W v' (insTo ⟨xu, xr, xt⟩ (R.take (k + 1)))) := Lib.hid fun W v' h => by rw [HST.out]; exact h
            have ha : (R.take (k + 1)).any (bef ⟨xu, xr, xt⟩) = false := HAN.out
            have HA := Lib.hid ha
            clear HST HAN ha
            go_wp2_with fail
            generalize wr.alloc (.cells #[.int .i64 yu, .int .i64 yr, .int .i64 yt] 31) = W2 at *
            generalize wr.heap.size = Q at *
            refine (HBF.out W2).mono ?_
            rintro e w4 ⟨rfl, k4⟩
            have e0 : w4.cell? ⟨Q, 0, none⟩ = some (.int .i64 yu) := (k4.cell (p := ⟨Q, 0, none⟩) hQ (fun h => h)).trans b0
            have e1 : w4.cell? ⟨Q, 1, none⟩ = some (.int .i64 yr) := (k4.cell (p := ⟨Q, 1, none⟩) hQ (fun h => h)).trans b1
            have e2 : w4.cell? ⟨Q, 2, none⟩ = some (.int .i64 yt) := (k4.cell (p := ⟨Q, 2, none⟩) hQ (fun h => h)).trans b2
            have HO4 := Lib.hid (HO2.out.kept k4 (fun _ _ h => h)); have HK4 := Lib.hid (HK2.out.then k4)
            have hs4 := k4.size
            have HZ : Hid (w1.heap.size ≤ w4.heap.size) := by show _ ≤ _; omega
            clear k4 b0 b1 b2 d0 d1 d2 HO2 HK2 hQ hs4
            go_wp2_with (at_builtin
                         refine wpList_pushR (by rfl) _ _ rfl rfl w1.heap.size _ _ w4.heap.size ⟨yu, yr, yt⟩ rfl rfl (HO4.out.alloc _) (one_new w4 ⟨yu, yr, yt⟩ _) (by have := HIL.out; omega) (by have := HZ.out; simp; omega) ?_
                         intro v' w5 o5 k5
                         have O5 := Lib.hid (HT.out w5 v' o5)
                         have K5 : Hid (Kept (fun _ => False) w1 w5) := Lib.hid ((HK4.out.then (Kept.alloc _ _ _)).trans k5 (fun _ _ h => h) (fun i hi e => by have := (World.ownsRow.lt HO4.out i e).1; omega))
                         clear o5 k5 e0 e1 e2)
            go_roundw
            case rel => first | exact ⟨k + 1, by omega, by go_num, by rw [HA.out], O5, K5⟩ | ((repeat apply Exists.intro); exact ⟨⟨k + 1, by omega, by go_num, by rw [HA.out], O5, K5⟩, rfl⟩)
            case measure => simp [intOf]; omega
          · have HT : Hid (∀ W v', OwnE 31 w1.heap.size W v' (acc ++ [⟨xu, xr, xt⟩] ++ [⟨yu, yr, yt⟩]) → OwnE 31 w1.heap.size W v' (insTo ⟨xu, xr, xt⟩ (R.take (k + 1)))) := Lib.hid fun W v' h => by rw [HST.out]; exact h
            have ha : (R.take (k + 1)).any (bef ⟨xu, xr, xt⟩) = true := HAN.out
            have HA := Lib.hid ha
            clear HST HAN ha
            go_wp2_with fail
            generalize wr.alloc (.cells #[.int .i64 yu, .int .i64 yr, .int .i64 yt] 31) = W2 at *
            generalize wr.heap.size = Q at *
            refine (HBF.out W2).mono ?_
            rintro e w4 ⟨rfl, k4⟩
            have e0 : w4.cell? ⟨Q, 0, none⟩ = some (.int .i64 yu) := (k4.cell (p := ⟨Q, 0, none⟩) hQ (fun h => h)).trans b0
            have e1 : w4.cell? ⟨Q, 1, none⟩ = some (.int .i64 yr) := (k4.cell (p := ⟨Q, 1, none⟩) hQ (fun h => h)).trans b1
            have e2 : w4.cell? ⟨Q, 2, none⟩ = some (.int .i64 yt) := (k4.cell (p := ⟨Q, 2, none⟩) hQ (fun h => h)).trans b2
            have HO4 := Lib.hid (HO2.out.kept k4 (fun _ _ h => h)); have HK4 := Lib.hid (HK2.out.then k4)
            obtain ⟨f0, f1, f2⟩ := HB2.out _ HK4.out
            simp only [Nat.zero_add] at f0 f1 f2
            have hs4 := k4.size
            have hQ4 : Q < w4.heap.size := by omega
            have HZ : Hid (w1.heap.size ≤ Q) := hw1
            have HZ4 : Hid (w1.heap.size ≤ w4.heap.size) := by show _ ≤ _; omega
            clear k4 b0 b1 b2 d0 d1 d2 HO2 HK2 hQ hs4 hw1
            go_wp2_with (first
              | (at_builtin
                 refine wpList_pushR (by rfl) _ _ rfl rfl w1.heap.size _ _ w4.heap.size ⟨xu, xr, xt⟩ rfl rfl (HO4.out.alloc _) (one_new w4 ⟨xu, xr, xt⟩ _) (by have := HIL.out; omega) (by have := HZ4.out; simp; omega) ?_
                 intro v' w5 o5 k5
                 have K5 : Hid (Kept (fun _ => False) w1 w5) := Lib.hid ((HK4.out.then (Kept.alloc _ _ _)).trans k5 (fun _ _ h => h) (fun i hi e => by have := (World.ownsRow.lt HO4.out i e).1; omega))
                 have O5 := Lib.hid o5
                 have hn5 : ∀ j, (w4.alloc (.cells #[.int .i64 xu, .int .i64 xr, .int .i64 xt] 31)).cell? ⟨Q, j, none⟩ = w4.cell? ⟨Q, j, none⟩ := fun j => World.cell?_alloc_past _ _ _ hQ4
                 have hkq : ∀ j y, w4.cell? ⟨Q, j, none⟩ = some y → w5.cell? ⟨Q, j, none⟩ = some y := fun j y hj => (k5.cell (p := ⟨Q, j, none⟩) (by simp; omega) (fun e => HNQ.out e)).trans ((hn5 j).trans hj)
                 have g0 := hkq 0 _ e0; have g1 := hkq 1 _ e1; have g2 := hkq 2 _ e2
                 have HZ5 : Hid (w1.heap.size ≤ w5.heap.size) := Nat.le_trans HZ4.out (Nat.le_trans (Kept.alloc (fun _ => False) w4 _).size k5.size)
                 clear o5 k5 e0 e1 e2 f0 f1 f2 hn5 hkq)
              | (at_builtin
                 refine wpList_pushR (by rfl) _ _ rfl rfl w1.heap.size _ _ w5.heap.size ⟨yu, yr, yt⟩ rfl rfl (O5.out.alloc _) (one_new w5 ⟨yu, yr, yt⟩ _) (by have := HIL.out; simp; omega) (by have := HZ5.out; simp; omega) ?_
                 intro v'' w6 o6 k6
                 have O6 := Lib.hid (HT.out w6 v'' o6)
                 have K6 : Hid (Kept (fun _ => False) w1 w6) := Lib.hid ((K5.out.then (Kept.alloc _ _ _)).trans k6 (fun _ _ h => h) (fun i hi e => by have := (World.ownsRow.lt O5.out i e).1; omega))
                 clear o6 k6 g0 g1 g2))
            go_roundw
            case rel => first | exact ⟨k + 1, by omega, by go_num, by rw [HA.out], O6, K6⟩ | ((repeat apply Exists.intro); exact ⟨⟨k + 1, by omega, by go_num, by rw [HA.out], O6, K6⟩, rfl⟩)
            case measure => simp [intOf]; omega
        · have HT : Hid (∀ W v', OwnE 31 w1.heap.size W v' (acc ++ [⟨yu, yr, yt⟩]) → OwnE 31 w1.heap.size W v' (insTo ⟨xu, xr, xt⟩ (R.take (k + 1)))) := Lib.hid fun W v' h => by rw [HST.out]; exact h
          have ha : (R.take (k + 1)).any (bef ⟨xu, xr, xt⟩) = true := HAN.out
          have HA := Lib.hid ha
          clear HST HAN ha d0 d1 d2
          go_wp2_with (at_builtin
                       refine wpList_pushR (by rfl) _ _ rfl rfl w1.heap.size _ _ (wr.heap.size + 1) ⟨yu, yr, yt⟩ rfl rfl (HO2.out.alloc _) (one_new1 wr _ ⟨yu, yr, yt⟩ _) (by have := HIL.out; omega) (by simp; omega) ?_
                       intro v' w5 o5 k5
                       have O5 := Lib.hid (HT.out w5 v' o5)
                       have K5 : Hid (Kept (fun _ => False) w1 w5) := Lib.hid ((HK2.out.then (Kept.alloc _ _ _)).trans k5 (fun _ _ h => h) (fun i hi e => by have := (World.ownsRow.lt HO2.out i e).1; omega))
                       clear o5 k5)
          go_roundw
          case rel => first | exact ⟨k + 1, by omega, by go_num, by rw [HA.out], O5, K5⟩ | ((repeat apply Exists.intro); exact ⟨⟨k + 1, by omega, by go_num, by rw [HA.out], O5, K5⟩, rfl⟩)
          case measure => simp [intOf]; omega
      · obtain rfl : k = N := by omega
        have hall : R.take k = R := List.take_of_length_le (by have := HRL.out; omega)
        rw [hall] at ho hil ⊢
        obtain ⟨d0, d1, d2⟩ := HB2.out _ hkw.out
        simp only [Nat.zero_add] at d0 d1 d2
        have hw1 : w1.heap.size ≤ wr.heap.size := hkw.out.size
        obtain ⟨dn, hdn⟩ : ∃ dn, dn = R.any (bef ⟨xu, xr, xt⟩) := ⟨_, rfl⟩
        rw [← hdn]
        have HD := Lib.hid hdn
        clear hdn hall
        cases dn
        · have he : insTo ⟨xu, xr, xt⟩ R = R := by unfold insTo; rw [← HD.out]; rfl
          have he2 : insE ⟨xu, xr, xt⟩ R = R ++ [⟨xu, xr, xt⟩] := by
            have := insE_skip ⟨xu, xr, xt⟩ [] R (not_any HD.out.symm)
            rwa [List.append_nil] at this
          rw [he] at ho hil
          have HE2 := Lib.hid he2; have HIL := Lib.hid hil
          clear he he2 hil
          go_wp2_with (at_builtin
                       refine wpList_pushR (by rfl) _ _ rfl rfl w1.heap.size _ _ wr.heap.size ⟨xu, xr, xt⟩ rfl rfl (ho.out.alloc _) (one_new wr ⟨xu, xr, xt⟩ _) (by have := HIL.out; omega) (by simp; omega) ?_
                       intro v' w5 o5 k5
                       have O5 := Lib.hid o5
                       have K5 : Hid (Kept (fun _ => False) w1 w5) := Lib.hid ((hkw.out.then (Kept.alloc _ _ _)).trans k5 (fun _ _ h => h) (fun i hi e => by have := (World.ownsRow.lt ho.out i e).1; omega))
                       clear o5 k5 d0 d1 d2)
          go_ret2
          exact ⟨_, rfl, by rw [HE2.out]; exact OwnE.lowR O5.out K1z.out, K1b.out.then K5.out⟩
        · have he : insTo ⟨xu, xr, xt⟩ R = insE ⟨xu, xr, xt⟩ R := by unfold insTo; rw [← HD.out]; rfl
          rw [he] at ho
          clear he d0 d1 d2
          go_wp2_with fail
          go_ret2
          exact ⟨_, rfl, OwnE.lowR ho.out K1z.out, K1b.out.then hkw.out⟩
  · obtain ⟨ra, rc, hof, hrc1, hrc2⟩ := orv.form
    subst hof
    have hRe : L.filter (notE xu xr) = R := HR.out.symm
    rw [hRe] at orv hrc1 ⊢
    have HEr0 := Lib.hid orv.ents
    obtain ⟨M, hM⟩ : ∃ M, M = R.length := ⟨_, rfl⟩
    rw [← hM] at HEr0 hRl hrc1 ⊢
    have HEr : Hid (Ents w1 (.slice ra M rc) R) := HEr0
    have HRL : Hid (M = R.length) := Lib.hid hM
    unfold maxLen at hrc2
    clear hlen hM orv hRe HEr0
    go_wp2_with fail
    go_loopw [8, 9, 52] (fun ov dv iv wr => ∃ k : Nat, k ≤ M ∧ iv = .int .i64 k ∧ dv = .bool ((R.take k).any (bef ⟨xu, xr, xt⟩)) ∧ Hid (OwnE 31 w1.heap.size wr ov (insTo ⟨xu, xr, xt⟩ (R.take k))) ∧ Hid (Kept (fun _ => False) w1 wr)) (fun _ _ iv _ => M - (intOf iv).toNat)
    case atStart => exact ⟨0, by omega, rfl, by simp, Lib.hid (by rw [List.take_zero]; exact OwnE.nil _ _ _), Lib.hid (Kept.refl _ _)⟩
    case round =>
      obtain ⟨k, hk, rfl, rfl, ho, hkw⟩ := hrel
      have hbox := fun W (kw : Kept (fun _ => False) w1 W) => (HBX.out.kept (K1.out.then kw) (fun h => h))
      have HB2 := Lib.hid hbox
      clear hbox
      have hil : (insTo ⟨xu, xr, xt⟩ (R.take k)).length ≤ k + 1 := Nat.le_trans (insTo_len _ _) (by rw [List.length_take]; omega)
      by_cases hlt : k < M
      · have l1 : (k : Int) < (M : Int) := by omega
        have l0 : (0 : Int) ≤ (k : Int) := by omega
        obtain ⟨g, off, rfl, hg, hc⟩ := (HEr.out.kept hkw.out (fun _ _ h => h)).at (k := k) (by have := HRL.out; omega)
        have hst := insTo_step ⟨xu, xr, xt⟩ R k (by have := HRL.out; omega)
        have han := any_step ⟨xu, xr, xt⟩ R k (by have := HRL.out; omega)
        generalize hy : R.getD k ent0 = y at hc hst han
        obtain ⟨yu, yr, yt⟩ := y
        obtain ⟨c0, c1, c2⟩ := hc
        simp only at c0 c1 c2
        have HST := Lib.hid hst; have HAN := Lib.hid han; have HIL := Lib.hid hil
        clear hy hst han hg hil
        generalize insTo ⟨xu, xr, xt⟩ (R.take k) = acc at ho HST HIL
        have hk2 : Kept (fun _ => False) w1 (wr.alloc (.cells #[.int .i64 yu, .int .i64 yr, .int .i64 yt] 31)) := hkw.out.then (Kept.alloc _ _ _)
        have HK2 := Lib.hid hk2
        have HO2 := Lib.hid (ho.out.alloc (.cells #[.int .i64 yu, .int .i64 yr, .int .i64 yt] 31))
        obtain ⟨b0, b1, b2⟩ := box3c wr yu yr yt 31
        obtain ⟨d0, d1, d2⟩ := HB2.out _ hk2
        simp only [Nat.zero_add] at d0 d1 d2
        have hQ : wr.heap.size < (wr.alloc (.cells #[.int .i64 yu, .int .i64 yr, .int .i64 yt] 31)).heap.size := by simp
        obtain ⟨dn, hdn⟩ : ∃ dn, dn = (R.take k).any (bef ⟨xu, xr, xt⟩) := ⟨_, rfl⟩
        rw [← hdn] at HST HAN ⊢
        obtain ⟨bb, hbb⟩ : ∃ bb, bb = bef ⟨xu, xr, xt⟩ ⟨yu, yr, yt⟩ := ⟨_, rfl⟩
        rw [← hbb] at HST HAN
        have HBF : Hid (∀ W, Calls Tryd.prog 54 #[.agg #[.int .i64 xu, .int .i64 xr, .int .i64 xt], .agg #[.int .i64 yu, .int .i64 yr, .int .i64 yt]] W fun e w' => e = .returned (.bool bb) ∧ Kept (fun _ => False) W w') := Lib.hid fun W => by rw [hbb]; exact before_any ⟨xu, xr, xt⟩ ⟨yu, yr, yt⟩ W
        have HNQ : Hid (u8.ownBlock ≠ some wr.heap.size) := Lib.hid fun e => by have := (World.ownsRow.lt ho.out _ e).2; omega
        clear hdn hbb hk2 ho
        have hw1 : w1.heap.size ≤ wr.heap.size := hkw.out.size
        cases dn
        · cases bb
          · have HT : Hid (∀ W v', OwnE 31 w1.heap.size W v' (acc ++ [⟨yu, yr, yt⟩]) → OwnE 31 w1.heap.size W v' (insTo ⟨xu, xr, xt⟩ (R.take (k + 1)))) := Lib.hid fun W v' h => by rw [HST.out]; exact h
            have ha : (R.take (k + 1)).any (bef ⟨xu, xr, xt⟩) = false := HAN.out
            have HA := Lib.hid ha
            clear HST HAN ha
            go_wp2_with fail
            generalize wr.alloc (.cells #[.int .i64 yu, .int .i64 yr, .int .i64 yt] 31) = W2 at *
            generalize wr.heap.size = Q at *
            refine (HBF.out W2).mono ?_
            rintro e w4 ⟨rfl, k4⟩
            have e0 : w4.cell? ⟨Q, 0, none⟩ = some (.int .i64 yu) := (k4.cell (p := ⟨Q, 0, none⟩) hQ (fun h => h)).trans b0
            have e1 : w4.cell? ⟨Q, 1, none⟩ = some (.int .i64 yr) := (k4.cell (p := ⟨Q, 1, none⟩) hQ (fun h => h)).trans b1
            have e2 : w4.cell? ⟨Q, 2, none⟩ = some (.int .i64 yt) := (k4.cell (p := ⟨Q, 2, none⟩) hQ (fun h => h)).trans b2
            have HO4 := Lib.hid (HO2.out.kept k4 (fun _ _ h => h)); have HK4 := Lib.hid (HK2.out.then k4)
            have hs4 := k4.size
            have HZ : Hid (w1.heap.size ≤ w4.heap.size) := by show _ ≤ _; omega
            clear k4 b0 b1 b2 d0 d1 d2 HO2 HK2 hQ hs4
            go_wp2_with (at_builtin
                         refine wpList_pushR (by rfl) _ _ rfl rfl w1.heap.size _ _ w4.heap.size ⟨yu, yr, yt⟩ rfl rfl (HO4.out.alloc _) (one_new w4 ⟨yu, yr, yt⟩ _) (by have := HIL.out; omega) (by have := HZ.out; simp; omega) ?_
                         intro v' w5 o5 k5
                         have O5 := Lib.hid (HT.out w5 v' o5)
                         have K5 : Hid (Kept (fun _ => False) w1 w5) := Lib.hid ((HK4.out.then (Kept.alloc _ _ _)).trans k5 (fun _ _ h => h) (fun i hi e => by have := (World.ownsRow.lt HO4.out i e).1; omega))
                         clear o5 k5 e0 e1 e2)
            go_roundw
            case rel => first | exact ⟨k + 1, by omega, by go_num, by rw [HA.out], O5, K5⟩ | ((repeat apply Exists.intro); exact ⟨⟨k + 1, by omega, by go_num, by rw [HA.out], O5, K5⟩, rfl⟩)
            case measure => simp [intOf]; omega
          · have HT : Hid (∀ W v', OwnE 31 w1.heap.size W v' (acc ++ [⟨xu, xr, xt⟩] ++ [⟨yu, yr, yt⟩]) → OwnE 31 w1.heap.size W v' (insTo ⟨xu, xr, xt⟩ (R.take (k + 1)))) := Lib.hid fun W v' h => by rw [HST.out]; exact h
            have ha : (R.take (k + 1)).any (bef ⟨xu, xr, xt⟩) = true := HAN.out
            have HA := Lib.hid ha
            clear HST HAN ha
            go_wp2_with fail
            generalize wr.alloc (.cells #[.int .i64 yu, .int .i64 yr, .int .i64 yt] 31) = W2 at *
            generalize wr.heap.size = Q at *
            refine (HBF.out W2).mono ?_
            rintro e w4 ⟨rfl, k4⟩
            have e0 : w4.cell? ⟨Q, 0, none⟩ = some (.int .i64 yu) := (k4.cell (p := ⟨Q, 0, none⟩) hQ (fun h => h)).trans b0
            have e1 : w4.cell? ⟨Q, 1, none⟩ = some (.int .i64 yr) := (k4.cell (p := ⟨Q, 1, none⟩) hQ (fun h => h)).trans b1
            have e2 : w4.cell? ⟨Q, 2, none⟩ = some (.int .i64 yt) := (k4.cell (p := ⟨Q, 2, none⟩) hQ (fun h => h)).trans b2
            have HO4 := Lib.hid (HO2.out.kept k4 (fun _ _ h => h)); have HK4 := Lib.hid (HK2.out.then k4)
            obtain ⟨f0, f1, f2⟩ := HB2.out _ HK4.out
            simp only [Nat.zero_add] at f0 f1 f2
            have hs4 := k4.size
            have hQ4 : Q < w4.heap.size := by omega
            have HZ : Hid (w1.heap.size ≤ Q) := hw1
            have HZ4 : Hid (w1.heap.size ≤ w4.heap.size) := by show _ ≤ _; omega
            clear k4 b0 b1 b2 d0 d1 d2 HO2 HK2 hQ hs4 hw1
            go_wp2_with (first
              | (at_builtin
                 refine wpList_pushR (by rfl) _ _ rfl rfl w1.heap.size _ _ w4.heap.size ⟨xu, xr, xt⟩ rfl rfl (HO4.out.alloc _) (one_new w4 ⟨xu, xr, xt⟩ _) (by have := HIL.out; omega) (by have := HZ4.out; simp; omega) ?_
                 intro v' w5 o5 k5
                 have K5 : Hid (Kept (fun _ => False) w1 w5) := Lib.hid ((HK4.out.then (Kept.alloc _ _ _)).trans k5 (fun _ _ h => h) (fun i hi e => by have := (World.ownsRow.lt HO4.out i e).1; omega))
                 have O5 := Lib.hid o5
                 have hn5 : ∀ j, (w4.alloc (.cells #[.int .i64 xu, .int .i64 xr, .int .i64 xt] 31)).cell? ⟨Q, j, none⟩ = w4.cell? ⟨Q, j, none⟩ := fun j => World.cell?_alloc_past _ _ _ hQ4
                 have hkq : ∀ j y, w4.cell? ⟨Q, j, none⟩ = some y → w5.cell? ⟨Q, j, none⟩ = some y := fun j y hj => (k5.cell (p := ⟨Q, j, none⟩) (by simp; omega) (fun e => HNQ.out e)).trans ((hn5 j).trans hj)
                 have g0 := hkq 0 _ e0; have g1 := hkq 1 _ e1; have g2 := hkq 2 _ e2
                 have HZ5 : Hid (w1.heap.size ≤ w5.heap.size) := Nat.le_trans HZ4.out (Nat.le_trans (Kept.alloc (fun _ => False) w4 _).size k5.size)
                 clear o5 k5 e0 e1 e2 f0 f1 f2 hn5 hkq)
              | (at_builtin
                 refine wpList_pushR (by rfl) _ _ rfl rfl w1.heap.size _ _ w5.heap.size ⟨yu, yr, yt⟩ rfl rfl (O5.out.alloc _) (one_new w5 ⟨yu, yr, yt⟩ _) (by have := HIL.out; simp; omega) (by have := HZ5.out; simp; omega) ?_
                 intro v'' w6 o6 k6
                 have O6 := Lib.hid (HT.out w6 v'' o6)
                 have K6 : Hid (Kept (fun _ => False) w1 w6) := Lib.hid ((K5.out.then (Kept.alloc _ _ _)).trans k6 (fun _ _ h => h) (fun i hi e => by have := (World.ownsRow.lt O5.out i e).1; omega))
                 clear o6 k6 g0 g1 g2))
            go_roundw
            case rel => first | exact ⟨k + 1, by omega, by go_num, by rw [HA.out], O6, K6⟩ | ((repeat apply Exists.intro); exact ⟨⟨k + 1, by omega, by go_num, by rw [HA.out], O6, K6⟩, rfl⟩)
            case measure => simp [intOf]; omega
        · have HT : Hid (∀ W v', OwnE 31 w1.heap.size W v' (acc ++ [⟨yu, yr, yt⟩]) → OwnE 31 w1.heap.size W v' (insTo ⟨xu, xr, xt⟩ (R.take (k + 1)))) := Lib.hid fun W v' h => by rw [HST.out]; exact h
          have ha : (R.take (k + 1)).any (bef ⟨xu, xr, xt⟩) = true := HAN.out
          have HA := Lib.hid ha
          clear HST HAN ha d0 d1 d2
          go_wp2_with (at_builtin
                       refine wpList_pushR (by rfl) _ _ rfl rfl w1.heap.size _ _ (wr.heap.size + 1) ⟨yu, yr, yt⟩ rfl rfl (HO2.out.alloc _) (one_new1 wr _ ⟨yu, yr, yt⟩ _) (by have := HIL.out; omega) (by simp; omega) ?_
                       intro v' w5 o5 k5
                       have O5 := Lib.hid (HT.out w5 v' o5)
                       have K5 : Hid (Kept (fun _ => False) w1 w5) := Lib.hid ((HK2.out.then (Kept.alloc _ _ _)).trans k5 (fun _ _ h => h) (fun i hi e => by have := (World.ownsRow.lt HO2.out i e).1; omega))
                       clear o5 k5)
          go_roundw
          case rel => first | exact ⟨k + 1, by omega, by go_num, by rw [HA.out], O5, K5⟩ | ((repeat apply Exists.intro); exact ⟨⟨k + 1, by omega, by go_num, by rw [HA.out], O5, K5⟩, rfl⟩)
          case measure => simp [intOf]; omega
      · obtain rfl : k = M := by omega
        have hall : R.take k = R := List.take_of_length_le (by have := HRL.out; omega)
        rw [hall] at ho hil ⊢
        obtain ⟨d0, d1, d2⟩ := HB2.out _ hkw.out
        simp only [Nat.zero_add] at d0 d1 d2
        have hw1 : w1.heap.size ≤ wr.heap.size := hkw.out.size
        obtain ⟨dn, hdn⟩ : ∃ dn, dn = R.any (bef ⟨xu, xr, xt⟩) := ⟨_, rfl⟩
        rw [← hdn]
        have HD := Lib.hid hdn
        clear hdn hall
        cases dn
        · have he : insTo ⟨xu, xr, xt⟩ R = R := by unfold insTo; rw [← HD.out]; rfl
          have he2 : insE ⟨xu, xr, xt⟩ R = R ++ [⟨xu, xr, xt⟩] := by
            have := insE_skip ⟨xu, xr, xt⟩ [] R (not_any HD.out.symm)
            rwa [List.append_nil] at this
          rw [he] at ho hil
          have HE2 := Lib.hid he2; have HIL := Lib.hid hil
          clear he he2 hil
          go_wp2_with (at_builtin
                       refine wpList_pushR (by rfl) _ _ rfl rfl w1.heap.size _ _ wr.heap.size ⟨xu, xr, xt⟩ rfl rfl (ho.out.alloc _) (one_new wr ⟨xu, xr, xt⟩ _) (by have := HIL.out; omega) (by simp; omega) ?_
                       intro v' w5 o5 k5
                       have O5 := Lib.hid o5
                       have K5 : Hid (Kept (fun _ => False) w1 w5) := Lib.hid ((hkw.out.then (Kept.alloc _ _ _)).trans k5 (fun _ _ h => h) (fun i hi e => by have := (World.ownsRow.lt ho.out i e).1; omega))
                       clear o5 k5 d0 d1 d2)
          go_ret2
          exact ⟨_, rfl, by rw [HE2.out]; exact OwnE.lowR O5.out K1z.out, K1b.out.then K5.out⟩
        · have he : insTo ⟨xu, xr, xt⟩ R = insE ⟨xu, xr, xt⟩ R := by unfold insTo; rw [← HD.out]; rfl
          rw [he] at ho
          clear he d0 d1 d2
          go_wp2_with fail
          go_ret2
          exact ⟨_, rfl, OwnE.lowR ho.out K1z.out, K1b.out.then hkw.out⟩
end Go.Proofs.YtccanbjnbmihgaaDoor
/-
  arbacref12.Fit, arbacref12.Make, arbaclaw12.Make.
-/
namespace Go.Proofs.YtccanbjnbmihgaaDoor
open Go.RowKit Go.Shelf
set_option linter.unusedVariables false
set_option linter.unusedSimpArgs false

/-- A raw assignment. -/
structure Raw3 where
  a : Nat
  b : Nat
  c : Nat
def raw0 : Raw3 := ⟨0, 0, 0⟩
/-- A value that reads as a row of raw assignments. -/
def Raws (w : World) (v : Value) (l : List Raw3) : Prop :=
  ((∃ a c, v = .slice a 0 c ∧ c ≤ maxLen) ∧ l = []) ∨
  ∃ g off cap, v = .slice (some ⟨g, off, none⟩) l.length cap ∧ l.length ≤ cap ∧ cap ≤ maxLen ∧ g < w.heap.size ∧ ∀ i, i < l.length →
    w.cell? ⟨g, off + i * 3, none⟩ = some (.int .u8 ((l.getD i raw0).a : Nat)) ∧ w.cell? ⟨g, off + i * 3 + 1, none⟩ = some (.int .u8 ((l.getD i raw0).b : Nat)) ∧ w.cell? ⟨g, off + i * 3 + 2, none⟩ = some (.int .u8 ((l.getD i raw0).c : Nat)) ∧
      (l.getD i raw0).a < 256 ∧ (l.getD i raw0).b < 256 ∧ (l.getD i raw0).c < 256
theorem Raws.form {w : World} {v : Value} {l : List Raw3} (h : Raws w v l) : ∃ a c, v = .slice a l.length c ∧ l.length ≤ c ∧ c ≤ maxLen := by
  rcases h with ⟨⟨a, c, rfl, hc⟩, rfl⟩ | ⟨g, off, cap, rfl, h1, h2, _⟩
  · exact ⟨_, _, rfl, Nat.zero_le _, hc⟩
  · exact ⟨_, _, rfl, h1, h2⟩
theorem Raws.kept {a b : World} {v : Value} {l : List Raw3} (h : Raws a v l) (hk : Kept (fun _ => False) a b) : Raws b v l := by
  rcases h with h | ⟨g, off, cap, rfl, h1, h2, h3, h4⟩
  · exact Or.inl h
  · refine Or.inr ⟨g, off, cap, rfl, h1, h2, Nat.lt_of_lt_of_le h3 hk.size, fun i hi => ?_⟩
    obtain ⟨c0, c1, c2, c3⟩ := h4 i hi
    exact ⟨(hk.cell h3 (fun h => h)).trans c0, (hk.cell h3 (fun h => h)).trans c1, (hk.cell h3 (fun h => h)).trans c2, c3⟩
theorem Raws.at {w : World} {a : Option Addr} {n c k : Nat} {l : List Raw3} (h : Raws w (.slice a n c) l) (hk : k < l.length) :
    ∃ g off, a = some ⟨g, off, none⟩ ∧ w.cell? ⟨g, off + k * 3, none⟩ = some (.int .u8 ((l.getD k raw0).a : Nat)) ∧ w.cell? ⟨g, off + k * 3 + 1, none⟩ = some (.int .u8 ((l.getD k raw0).b : Nat)) ∧ w.cell? ⟨g, off + k * 3 + 2, none⟩ = some (.int .u8 ((l.getD k raw0).c : Nat)) ∧
      (l.getD k raw0).a < 256 ∧ (l.getD k raw0).b < 256 ∧ (l.getD k raw0).c < 256 := by
  rcases h with ⟨_, rfl⟩ | ⟨g, off, cap, h, _, _, _, h4⟩
  · simp at hk
  · cases h
    exact ⟨g, off, rfl, h4 k hk⟩

def fitR (r : Raw3) : Ent := ⟨1 + (r.a % 5 : Nat), 1 + (r.b % 8 : Nat), (r.c % 20 : Nat)⟩
theorem fitR_err (r : Raw3) : asgErr (fitR r).u (fitR r).r (fitR r).t = 0 := by
  unfold asgErr fitR
  have h1 : r.a % 5 < 5 := Nat.mod_lt _ (by omega)
  have h2 : r.b % 8 < 8 := Nat.mod_lt _ (by omega)
  have h3 : r.c % 20 < 20 := Nat.mod_lt _ (by omega)
  simp only
  rw [if_neg (by omega), if_neg (by omega)]

set_option maxRecDepth 100000 in
set_option maxHeartbeats 1600000 in
theorem fit_any (r : Raw3) (w : World) (ha : r.a < 256) (hb : r.b < 256) (hc : r.c < 256) :
    Calls Tryd.prog 37 #[.agg #[.int .u8 (r.a : Nat), .int .u8 (r.b : Nat), .int .u8 (r.c : Nat)]] w fun e w' => e = .returned (entV (fitR r)) ∧ Kept (fun _ => False) w w' := by
  obtain ⟨a, b, c⟩ := r
  simp only at ha hb hc ⊢
  unfold entV fitR
  simp only
  obtain ⟨p, hp⟩ : ∃ p, p = a % 5 := ⟨_, rfl⟩
  obtain ⟨q, hq⟩ : ∃ q, q = b % 8 := ⟨_, rfl⟩
  obtain ⟨s, hs⟩ : ∃ s, s = c % 20 := ⟨_, rfl⟩
  rw [← hp, ← hq, ← hs]
  have p5 : p < 5 := by omega
  have q8 : q < 8 := by omega
  have s20 : s < 20 := by omega
  have e1 : (a : Int).tmod 5 = (p : Int) ∧ (a : Int) % 5 = (p : Int) ∧ IntKind.u8.wrap (p : Int) = (p : Int) := ⟨by rw [Int.tmod_eq_emod_of_nonneg (by omega)]; omega, by omega, IntWalk.u8_in _ (by omega)⟩
  have e2 : (b : Int).tmod 8 = (q : Int) ∧ (b : Int) % 8 = (q : Int) ∧ IntKind.u8.wrap (q : Int) = (q : Int) := ⟨by rw [Int.tmod_eq_emod_of_nonneg (by omega)]; omega, by omega, IntWalk.u8_in _ (by omega)⟩
  have e3 : (c : Int).tmod 20 = (s : Int) ∧ (c : Int) % 20 = (s : Int) ∧ IntKind.u8.wrap (s : Int) = (s : Int) := ⟨by rw [Int.tmod_eq_emod_of_nonneg (by omega)]; omega, by omega, IntWalk.u8_in _ (by omega)⟩
  obtain ⟨a1, a2, a3⟩ := e1
  obtain ⟨b1, b2, b3⟩ := e2
  obtain ⟨c1, c2, c3⟩ := e3
  clear hp hq hs
  go_enter Tryd.func37, Tryd.ntmps37
  go_wp2_with fail
  refine bodyPost_ret (v := .agg #[.int .i64 (1 + (p : Int)), .int .i64 (1 + (q : Int)), .int .i64 (s : Int)]) (by simp [results, Tryd.results37, go_sem]) rfl ?_
  exact ⟨rfl, (Kept.alloc (fun _ => False) _ _).then (Kept.alloc _ _ _)⟩
end Go.Proofs.YtccanbjnbmihgaaDoor
/-
  arbacref12.Make, arbaclaw12.Make: the book that raw assignments stand for, and the specification's.
-/
namespace Go.Proofs.YtccanbjnbmihgaaDoor
open Go.RowKit Go.Shelf
set_option linter.unusedVariables false
set_option linter.unusedSimpArgs false

def mkE (rs : List Raw3) : List Ent := rs.foldl (fun L r => asgE L (fitR r)) []
def mkH (rs : List Raw3) : Nat → List Ent := rs.foldl (fun H r => upd H (1 + r.a % 5) (putR (H (1 + r.a % 5)) (fitR r))) (fun _ => [])
theorem takeR (l : List Raw3) (k : Nat) (hk : k < l.length) : l.take (k + 1) = l.take k ++ [l.getD k raw0] := by rw [List.take_add_one]; simp [List.getD, hk]
theorem mkE_snoc (l : List Raw3) (r : Raw3) : mkE (l ++ [r]) = asgE (mkE l) (fitR r) := by unfold mkE; rw [List.foldl_append]; rfl
theorem mkH_snoc (l : List Raw3) (r : Raw3) : mkH (l ++ [r]) = upd (mkH l) (1 + r.a % 5) (putR (mkH l (1 + r.a % 5)) (fitR r)) := by unfold mkH; rw [List.foldl_append]; rfl
theorem fitR_bounds (r : Raw3) : (fitR r).u = ((1 + r.a % 5 : Nat) : Int) ∧ 1 ≤ 1 + r.a % 5 ∧ 1 + r.a % 5 ≤ 5 ∧ 1 ≤ (fitR r).r ∧ (fitR r).r ≤ 8 ∧ 0 ≤ (fitR r).t ∧ (fitR r).t < 20 := by
  unfold fitR
  have h1 : r.a % 5 < 5 := Nat.mod_lt _ (by omega)
  have h2 : r.b % 8 < 8 := Nat.mod_lt _ (by omega)
  have h3 : r.c % 20 < 20 := Nat.mod_lt _ (by omega)
  simp only
  omega
theorem mkH_rows (l : List Raw3) : Rows2 (mkH l) ∧ allE (mkH l) = mkE l := by
  have key : ∀ (l : List Raw3) (H : Nat → List Ent) (L : List Ent), Rows2 H → allE H = L →
      Rows2 (l.foldl (fun H r => upd H (1 + r.a % 5) (putR (H (1 + r.a % 5)) (fitR r))) H) ∧ allE (l.foldl (fun H r => upd H (1 + r.a % 5) (putR (H (1 + r.a % 5)) (fitR r))) H) = l.foldl (fun L r => asgE L (fitR r)) L := by
    intro l
    induction l with
    | nil => intro H L h1 h2; exact ⟨h1, h2⟩
    | cons r t ih =>
      intro H L h1 h2
      obtain ⟨b1, b2, b3, b4, b5, b6, b7⟩ := fitR_bounds r
      rw [List.foldl_cons, List.foldl_cons]
      refine ih _ _ (h1.put (by omega) b2 b1 ⟨b4, by omega⟩ ⟨b6, by omega⟩) ?_
      rw [allE_put h1 _ _ (by omega) b1, h2]
  exact key l _ _ Rows2.nil allE_nil
theorem insE_len2 (x : Ent) (l : List Ent) : (insE x l).length = l.length + 1 := insE_len x l
theorem mkE_len (l : List Raw3) : (mkE l).length ≤ l.length := by
  have key : ∀ (l : List Raw3) (L : List Ent), (l.foldl (fun L r => asgE L (fitR r)) L).length ≤ L.length + l.length := by
    intro l
    induction l with
    | nil => intro L; simp
    | cons r t ih =>
      intro L
      rw [List.foldl_cons, List.length_cons]
      have h1 := ih (asgE L (fitR r))
      have h2 : (asgE L (fitR r)).length ≤ L.length + 1 := by
        unfold asgE
        rw [insE_len]
        have := List.length_filter_le (notE (fitR r).u (fitR r).r) L
        omega
      omega
  have := key l []
  unfold mkE
  simpa using this

set_option maxRecDepth 100000 in
set_option maxHeartbeats 3200000 in
theorem rmake_any (w : World) (v : Value) (rs : List Raw3) (h : Raws w v rs) :
    Calls Tryd.prog 43 #[v] w fun e w' => ∃ v', e = .returned v' ∧ Ents w' v' (mkE (rs.take 16)) ∧ Kept (fun _ => False) w w' := by
  obtain ⟨a, c, rfl, h1, h2⟩ := h.form
  have HE := Lib.hid h
  obtain ⟨N, hN⟩ : ∃ N, N = rs.length := ⟨_, rfl⟩
  rw [← hN] at h1 HE ⊢
  have HN := Lib.hid hN
  unfold maxLen at h2
  clear h hN
  go_enter Tryd.func43, Tryd.ntmps43
  go_wp2_with fail
  go_loopw [3, 8] (fun ov iv wr => ∃ k : Nat, k ≤ N ∧ k ≤ 16 ∧ iv = .int .i64 k ∧ Hid (Ents wr ov (mkE (rs.take k))) ∧ Hid (Kept (fun _ => False) w wr)) (fun _ iv _ => N - (intOf iv).toNat)
  case atStart => exact ⟨0, by omega, by omega, rfl, Lib.hid (Or.inl ⟨rfl, rfl⟩), Lib.hid (Kept.refl _ _)⟩
  case round =>
    obtain ⟨k, hk, hk16, rfl, ho, hkw⟩ := hrel
    by_cases hlt : k < N
    · have l1 : (k : Int) < (N : Int) := by omega
      have l0 : (0 : Int) ≤ (k : Int) := by omega
      obtain ⟨g, off, rfl, c0, c1, c2, r1, r2, r3⟩ := (HE.out.kept hkw.out).at (k := k) (by have := HN.out; omega)
      have HS := Lib.hid (mkE_snoc (rs.take k) (rs.getD k raw0))
      have HT := Lib.hid (takeR rs k (by have := HN.out; omega))
      have hml : (mkE (rs.take k)).length ≤ 16 := Nat.le_trans (mkE_len _) (by rw [List.length_take]; omega)
      generalize rs.getD k raw0 = r at c0 c1 c2 r1 r2 r3 HS HT
      have HFt := Lib.hid (fun W => fit_any r W r1 r2 r3)
      have HFe := Lib.hid (fitR_err r)
      obtain ⟨ra, rb, rc⟩ := r
      simp only at c0 c1 c2 r1 r2 r3
      by_cases h16 : k = 16
      · subst h16
        have HR := Lib.hid ho.out
        have HK3 : Hid (Kept (fun _ => False) w (wr.alloc (.cells #[.int .u8 (ra : Int), .int .u8 (rb : Int), .int .u8 (rc : Int)] 70))) := Lib.hid (hkw.out.then (Kept.alloc _ _ _))
        go_wp2_with fail
        go_ret
        exact ⟨_, rfl, ho.out.kept (Kept.alloc (fun _ => False) _ _) (fun _ _ h => h), HK3.out⟩
      · have h16b : ¬ ((k : Int) = 16) := by omega
        have hk2 : k ≤ 15 := by omega
        have HE2 := Lib.hid (ho.out.kept (Kept.alloc (fun _ => False) wr (.cells #[.int .u8 (ra : Int), .int .u8 (rb : Int), .int .u8 (rc : Int)] 70)) (fun _ _ h => h))
        have HK2 := Lib.hid (hkw.out.then (Kept.alloc (fun _ => False) wr (.cells #[.int .u8 (ra : Int), .int .u8 (rb : Int), .int .u8 (rc : Int)] 70)))
        have HML := Lib.hid hml
        clear ho hml
        go_wp2_with (first
          | (go_at_call 37; refine (HFt.out _).mono ?_; rintro e w3 ⟨rfl, k3⟩
             have HE3 := Lib.hid (HE2.out.kept k3 (fun _ _ h => h)); have HK3 := Lib.hid (HK2.out.then k3)
             clear k3)
          | (go_at_call 20; refine (rassign_any w3 _ _ _ _ _ HE3.out (by have := HML.out; omega) HFe.out).mono ?_; rintro e w4 ⟨v4, rfl, o4, k4⟩
             have HE4 : Hid (Ents w4 v4 (mkE (rs.take (k + 1)))) := Lib.hid (by rw [HT.out, HS.out]; exact o4.ents)
             have HK4 := Lib.hid (HK3.out.then k4)
             clear o4 k4))
        go_roundw
        case rel => first | exact ⟨k + 1, by omega, by omega, by go_num, HE4, HK4⟩ | ((repeat apply Exists.intro); exact ⟨⟨k + 1, by omega, by omega, by go_num, HE4, HK4⟩, rfl⟩)
        case measure => simp [intOf]; omega
    · obtain rfl : k = N := by omega
      have hall : rs.take k = rs.take 16 := by rw [List.take_of_length_le (by have := HN.out; omega), List.take_of_length_le (by have := HN.out; omega)]
      rw [hall] at ho
      clear hall
      go_wp2_with fail
      go_ret
      exact ⟨_, rfl, ho.out, hkw.out⟩

set_option maxRecDepth 100000 in
set_option maxHeartbeats 3200000 in
theorem lmake_any (w : World) (v : Value) (rs : List Raw3) (h : Raws w v rs) :
    Calls Tryd.prog 22 #[v] w fun e w' => ∃ v' l', e = .returned (.tuple #[v', l']) ∧ BookV w' v' 16 (mkH (rs.take 16)) ∧ Ents w' l' (mkE (rs.take 16)) ∧ Kept (fun _ => False) w w' := by
  obtain ⟨a, c, rfl, h1, h2⟩ := h.form
  have HM : Hid (∀ W, Kept (fun _ => False) w W → Calls Tryd.prog 43 #[.slice a rs.length c] W fun e w' => ∃ v', e = .returned v' ∧ Ents w' v' (mkE (rs.take 16)) ∧ Kept (fun _ => False) W w') := Lib.hid fun W kw => rmake_any W _ rs (h.kept kw)
  have HE := Lib.hid h
  obtain ⟨N, hN⟩ : ∃ N, N = rs.length := ⟨_, rfl⟩
  rw [← hN] at h1 HE HM ⊢
  have HN := Lib.hid hN
  unfold maxLen at h2
  clear h hN
  go_enter Tryd.func22, Tryd.ntmps22
  go_wp2_with fail
  refine (mnew_any w).mono ?_
  rintro e w1 ⟨v1, rfl, b1, k1⟩
  have B1 := Lib.hid b1; have K1 := Lib.hid k1
  clear b1 k1
  go_wp2_with fail
  go_loopw [4, 13] (fun bv iv wr => ∃ k : Nat, k ≤ N ∧ k ≤ 16 ∧ iv = .int .i64 k ∧ Hid (BookV wr bv k (mkH (rs.take k))) ∧ Hid (Kept (fun _ => False) w wr)) (fun _ iv _ => N - (intOf iv).toNat)
  case atStart => exact ⟨0, by omega, by omega, rfl, B1, K1⟩
  case round =>
    obtain ⟨k, hk, hk16, rfl, ho, hkw⟩ := hrel
    by_cases hlt : k < N
    · have l1 : (k : Int) < (N : Int) := by omega
      have l0 : (0 : Int) ≤ (k : Int) := by omega
      obtain ⟨g, off, rfl, c0, c1, c2, r1, r2, r3⟩ := (HE.out.kept hkw.out).at (k := k) (by have := HN.out; omega)
      have HS := Lib.hid (mkH_snoc (rs.take k) (rs.getD k raw0))
      have HT := Lib.hid (takeR rs k (by have := HN.out; omega))
      generalize rs.getD k raw0 = r at c0 c1 c2 r1 r2 r3 HS HT
      obtain ⟨f1, f2, f3, f4, f5, f6, f7⟩ := fitR_bounds r
      obtain ⟨un, hun⟩ : ∃ un, un = 1 + r.a % 5 := ⟨_, rfl⟩
      obtain ⟨rr, hrr⟩ : ∃ rr, rr = (fitR r).r := ⟨_, rfl⟩
      obtain ⟨tt, htt⟩ : ∃ tt, tt = (fitR r).t := ⟨_, rfl⟩
      rw [← hun] at f1 f2 f3
      rw [← hrr] at f4 f5
      rw [← htt] at f6 f7
      have hfe : fitR r = ⟨(un : Int), rr, tt⟩ := by rw [← f1, hrr, htt]
      have hft := fun W => fit_any r W r1 r2 r3
      rw [hfe] at hft
      unfold entV at hft
      simp only at hft
      have HFt := Lib.hid hft
      have hs := HS.out
      rw [hfe, ← hun] at hs
      replace HS := Lib.hid hs
      clear hft hs hfe hrr htt hun f1
      obtain ⟨ra, rb, rc⟩ := r
      simp only at c0 c1 c2 r1 r2 r3 HFt
      by_cases h16 : k = 16
      · subst h16
        have HK3 : Hid (Kept (fun _ => False) w (wr.alloc (.cells #[.int .u8 (ra : Int), .int .u8 (rb : Int), .int .u8 (rc : Int)] 70))) := Lib.hid (hkw.out.then (Kept.alloc _ _ _))
        have HB3 := Lib.hid (ho.out.kept (Kept.alloc (fun _ => False) wr (.cells #[.int .u8 (ra : Int), .int .u8 (rb : Int), .int .u8 (rc : Int)] 70)))
        go_wp2_with (go_at_call 43; refine (HM.out _ HK3.out).mono ?_; rintro e w5 ⟨v5, rfl, e5, k5⟩
                     have B5 := Lib.hid (HB3.out.kept k5); have K5 := Lib.hid (HK3.out.then k5); have E5 := Lib.hid e5
                     clear e5 k5)
        go_ret2
        exact ⟨_, _, rfl, B5.out, E5.out, K5.out⟩
      · have h16b : ¬ ((k : Int) = 16) := by omega
        have hk2 : k ≤ 15 := by omega
        have HB2 := Lib.hid (ho.out.kept (Kept.alloc (fun _ => False) wr (.cells #[.int .u8 (ra : Int), .int .u8 (rb : Int), .int .u8 (rc : Int)] 70)))
        have HK2 := Lib.hid (hkw.out.then (Kept.alloc (fun _ => False) wr (.cells #[.int .u8 (ra : Int), .int .u8 (rb : Int), .int .u8 (rc : Int)] 70)))
        clear ho
        go_wp2_with (first
          | (go_at_call 37; refine (HFt.out _).mono ?_; rintro e w3 ⟨rfl, k3⟩
             have HB3 := Lib.hid (HB2.out.kept (k3.then (Kept.alloc _ _ (.cells #[.int .i64 (un : Int), .int .i64 rr, .int .i64 tt] 31)))); have HK3 := Lib.hid (HK2.out.then (k3.then (Kept.alloc _ _ (.cells #[.int .i64 (un : Int), .int .i64 rr, .int .i64 tt] 31))))
             clear k3)
          | (go_at_call 19; refine (assign_any _ _ k _ un rr tt HB3.out (by omega) (by omega) (by omega) (by omega) (by omega) (by omega) (by omega)).mono ?_; rintro e w4 ⟨v4, rfl, b4, k4⟩
             have HB4 : Hid (BookV w4 v4 (k + 1) (mkH (rs.take (k + 1)))) := Lib.hid (by rw [HT.out, HS.out]; exact b4)
             have HK4 := Lib.hid (HK3.out.then k4)
             clear b4 k4))
        go_roundw
        case rel => first | exact ⟨k + 1, by omega, by omega, by go_num, HB4, HK4⟩ | ((repeat apply Exists.intro); exact ⟨⟨k + 1, by omega, by omega, by go_num, HB4, HK4⟩, rfl⟩)
        case measure => simp [intOf]; omega
    · obtain rfl : k = N := by omega
      have hall : rs.take k = rs.take 16 := by rw [List.take_of_length_le (by have := HN.out; omega), List.take_of_length_le (by have := HN.out; omega)]
      rw [hall] at ho
      clear hall
      have HB3 := Lib.hid (ho.out.more hk16)
      clear ho
      go_wp2_with (go_at_call 43; refine (HM.out _ hkw.out).mono ?_; rintro e w5 ⟨v5, rfl, e5, k5⟩
                   have B5 := Lib.hid (HB3.out.kept k5); have K5 := Lib.hid (hkw.out.then k5); have E5 := Lib.hid e5
                   clear e5 k5)
      go_ret2
      exact ⟨_, _, rfl, B5.out, E5.out, K5.out⟩
end Go.Proofs.YtccanbjnbmihgaaDoor
/-
  Plain words of membership: what is looked up behind an assignment and behind a revocation; how many entries there are.
-/
namespace Go.Proofs.YtccanbjnbmihgaaDoor
set_option linter.unusedVariables false
set_option linter.unusedSimpArgs false

theorem asc_uniq {l : List Ent} (ha : Asc l) {y z : Ent} (hy : y ∈ l) (hz : z ∈ l) (h : y.r = z.r) : y = z := by
  obtain ⟨i, hi, rfl⟩ := List.getElem_of_mem hy
  obtain ⟨j, hj, rfl⟩ := List.getElem_of_mem hz
  have ei : l.getD i ent0 = l[i] := by simp [List.getD, hi]
  have ej : l.getD j ent0 = l[j] := by simp [List.getD, hj]
  rcases Nat.lt_trichotomy i j with h1 | rfl | h1
  · have := ha i j h1 hj; rw [ei, ej] at this; omega
  · rfl
  · have := ha j i h1 hi; rw [ei, ej] at this; omega
theorem look_iff {l : List Ent} (ha : Asc l) {r : Int} {y : Ent} : lookE l r = some y ↔ y ∈ l ∧ y.r = r := by
  unfold lookE
  constructor
  · intro h
    exact ⟨List.mem_of_find?_eq_some h, by simpa using List.find?_some h⟩
  · rintro ⟨h1, h2⟩
    cases hf : l.find? (fun y => decide (y.r = r)) with
    | none => exact absurd h2 (by simpa using List.find?_eq_none.1 hf y h1)
    | some z =>
      have hz : z.r = r := by simpa using List.find?_some hf
      rw [asc_uniq ha (List.mem_of_find?_eq_some hf) h1 (hz.trans h2.symm)]
theorem look_no {l : List Ent} {r : Int} : lookE l r = none ↔ ∀ y ∈ l, y.r ≠ r := by
  unfold lookE
  rw [List.find?_eq_none]
  simp
theorem mem_putR {l : List Ent} {x y : Ent} : y ∈ putR l x ↔ (y ∈ l ∧ y.r ≠ x.r) ∨ y = x := by
  unfold putR
  simp only [List.mem_append, List.mem_singleton, List.mem_filter, decide_eq_true_eq]
  constructor
  · rintro ((⟨h1, h2⟩ | h) | ⟨h1, h2⟩)
    · exact Or.inl ⟨h1, by omega⟩
    · exact Or.inr h
    · exact Or.inl ⟨h1, by omega⟩
  · rintro (⟨h1, h2⟩ | h)
    · rcases Int.lt_or_gt_of_ne h2 with h3 | h3
      · exact Or.inl (Or.inl ⟨h1, h3⟩)
      · exact Or.inr ⟨h1, h3⟩
    · exact Or.inl (Or.inr h)
theorem rowOf_nat (H : Nat → List Ent) (u : Nat) (h1 : 1 ≤ u) (h2 : u ≤ 256) : rowOf H (u : Int) = H u := by
  unfold rowOf
  rw [if_pos (by omega)]; simp
theorem upd_same {α : Type} (f : Nat → α) (u : Nat) (v : α) : upd f u v u = v := by unfold upd; rw [if_pos rfl]
theorem upd_other {α : Type} (f : Nat → α) {u k : Nat} (v : α) (h : k ≠ u) : upd f u v k = f k := by unfold upd; rw [if_neg h]

theorem unt_put {H : Nat → List Ent} (h : Rows2 H) (u : Nat) (r t : Int) (h1 : 1 ≤ u) (h2 : u ≤ 256) : untE (rowOf (upd H u (putR (H u) ⟨u, r, t⟩)) (u : Int)) r = (t, true) := by
  rw [rowOf_nat _ u h1 h2, upd_same]
  unfold untE
  rw [(look_iff (asc_putR (h.asc u (by omega)))).2 ⟨mem_putR.2 (Or.inr rfl), rfl⟩]
theorem unt_put_other {H : Nat → List Ent} (h : Rows2 H) (u : Nat) (r t : Int) (h1 : 1 ≤ u) (h2 : u ≤ 256) {y : Ent} (hy : y ∈ allE H) :
    (untE (rowOf (upd H u (putR (H u) ⟨u, r, t⟩)) y.u) y.r).2 = true ∧ (y.u ≠ u ∨ y.r ≠ r → (untE (rowOf (upd H u (putR (H u) ⟨u, r, t⟩)) y.u) y.r).1 = y.t) := by
  obtain ⟨k, hk, hy⟩ := (allE_mem y).1 hy
  have hu := h.user k hk y hy
  have hk1 : 1 ≤ k := by
    rcases Nat.eq_zero_or_pos k with h0 | h0
    · subst h0; rw [h.none] at hy; simp at hy
    · exact h0
  rw [hu, rowOf_nat _ k hk1 (by omega)]
  by_cases e : k = u
  · subst e
    rw [upd_same]
    have ha := asc_putR (x := ⟨(k : Int), r, t⟩) (h.asc k hk)
    by_cases e2 : y.r = r
    · unfold untE
      rw [e2, (look_iff ha).2 ⟨mem_putR.2 (Or.inr rfl), rfl⟩]
      exact ⟨rfl, fun h => by omega⟩
    · unfold untE
      rw [(look_iff ha).2 ⟨mem_putR.2 (Or.inl ⟨hy, e2⟩), rfl⟩]
      exact ⟨rfl, fun _ => rfl⟩
  · rw [upd_other _ _ e]
    unfold untE
    rw [(look_iff (h.asc k hk)).2 ⟨hy, rfl⟩]
    exact ⟨rfl, fun _ => rfl⟩
theorem unt_del {H : Nat → List Ent} (u : Nat) (r : Int) (h1 : 1 ≤ u) (h2 : u ≤ 256) : untE (rowOf (upd H u ((H u).filter (fun y => decide (y.r ≠ r)))) (u : Int)) r = (0, false) := by
  rw [rowOf_nat _ u h1 h2, upd_same]
  unfold untE
  rw [look_no.2 (fun y hy => by simpa using (List.mem_filter.1 hy).2)]
theorem unt_snd (l : List Ent) (r : Int) : (untE l r).2 = (lookE l r).isSome := by
  unfold untE
  cases lookE l r <;> rfl

theorem ne_len : ∀ (l : List Ent) (r : Int), Asc l → (l.filter (fun y => decide (y.r ≠ r))).length + (if (lookE l r).isSome then 1 else 0) = l.length
  | [], r, _ => by simp [lookE]
  | y :: t, r, ha => by
    have it := ne_len t r (asc_tail ha)
    have hh := asc_head ha
    by_cases e : y.r = r
    · have hn : lookE t r = none := look_no.2 (fun z hz => by have := hh z hz; omega)
      rw [hn] at it
      have hs : lookE (y :: t) r = some y := by unfold lookE; rw [List.find?_cons_of_pos (by simpa using e)]
      rw [hs, List.filter_cons, if_neg (by simp; exact e)]
      simp at it ⊢
      omega
    · have hs : lookE (y :: t) r = lookE t r := by unfold lookE; rw [List.find?_cons_of_neg (by simpa using e)]
      rw [hs, List.filter_cons, if_pos (by simpa using e), List.length_cons, List.length_cons]
      omega
theorem del_len {H : Nat → List Ent} (h : Rows2 H) (u : Nat) (hu : u < 257) (r : Int) : ((allE H).filter (notE u r)).length + (if (lookE (H u) r).isSome then 1 else 0) = (allE H).length := by
  have e1 := allE_del h r u hu
  have e2 := allE_split H u hu
  have e3 := allE_split (upd H u ((H u).filter (fun y => decide (y.r ≠ r)))) u hu
  rw [upd_same] at e3
  have c1 : (List.range u).flatMap (upd H u ((H u).filter (fun y => decide (y.r ≠ r)))) = (List.range u).flatMap H := flatMap_congr' _ (fun k hk => upd_other _ _ (by have := List.mem_range.1 hk; omega))
  have c2 : (List.range' (u + 1) (256 - u)).flatMap (upd H u ((H u).filter (fun y => decide (y.r ≠ r)))) = (List.range' (u + 1) (256 - u)).flatMap H := flatMap_congr' _ (fun k hk => upd_other _ _ (by have := List.mem_range'_1.1 hk; omega))
  rw [c1, c2] at e3
  rw [← e1, e3, e2]
  have := ne_len (H u) r (h.asc u hu)
  simp only [List.length_append]
  omega
theorem put_len {H : Nat → List Ent} (h : Rows2 H) (u : Nat) (h2 : u ≤ 256) (r t : Int) : (allE (upd H u (putR (H u) ⟨u, r, t⟩))).length + (if (lookE (H u) r).isSome then 1 else 0) = (allE H).length + 1 := by
  rw [allE_put h ⟨u, r, t⟩ u (by omega) rfl]
  unfold asgE
  have : ∀ l : List Ent, (insE ⟨u, r, t⟩ l).length = l.length + 1 := by
    intro l
    induction l with
    | nil => rfl
    | cons y s ih =>
      rw [insE]
      split
      · simp
      · rw [List.length_cons, ih, List.length_cons]
  rw [this]
  have := del_len h u (by omega) r
  show ((allE H).filter (notE (u : Int) r)).length + 1 + _ = _
  omega
end Go.Proofs.YtccanbjnbmihgaaDoor
/-
  arbaclaw12.is (where it holds); slices.Equal of entries; Book.Equal.
-/
namespace Go.Proofs.YtccanbjnbmihgaaDoor
open Go.RowKit Go.Shelf
set_option linter.unusedVariables false
set_option linter.unusedSimpArgs false

instance : DecidableEq Ent := fun a b =>
  if h : a.u = b.u ∧ a.r = b.r ∧ a.t = b.t then isTrue (by cases a; cases b; simp_all) else isFalse (fun e => h (by rw [e]; exact ⟨rfl, rfl, rfl⟩))

set_option maxRecDepth 100000 in
set_option maxHeartbeats 1600000 in
theorem is1_any (x : Ent) (w : World) : Calls Tryd.prog 56 #[entV x, entV x] w fun e w' => e = .returned (.bool true) ∧ Kept (fun _ => False) w w' := by
  unfold entV
  obtain ⟨xu, xr, xt⟩ := x
  have HK := Lib.hid ((Kept.alloc (fun _ => False) w (.cells #[.int .i64 xu, .int .i64 xr, .int .i64 xt] 87)).then (Kept.alloc _ _ (.cells #[.int .i64 xu, .int .i64 xr, .int .i64 xt] 31)))
  go_enter Tryd.func56, Tryd.ntmps56
  go_wp2_with fail
  go_ret
  exact ⟨rfl, HK.out⟩

set_option maxRecDepth 100000 in
set_option maxHeartbeats 3200000 in
theorem equalF_any (w : World) (v u : Value) (l : List Ent) (hv : Ents w v l) (hu : Ents w u l) :
    Calls Tryd.prog 55 #[v, u, .func (.func 56) #[] #[]] w fun e w' => e = .returned (.bool true) ∧ Kept (fun _ => False) w w' := by
  obtain ⟨a, c, rfl, h1, h2⟩ := hv.form
  obtain ⟨a2, c2, rfl, h3, h4⟩ := hu.form
  have HV := Lib.hid hv; have HU := Lib.hid hu
  obtain ⟨N, hN⟩ : ∃ N, N = l.length := ⟨_, rfl⟩
  rw [← hN] at HV HU h1 h3 ⊢
  have HN := Lib.hid hN
  unfold maxLen at h2 h4
  clear hv hu hN
  go_enter Tryd.func55, Tryd.ntmps55
  go_wp2_with fail
  go_loopw [17] (fun iv wr => ∃ k : Nat, k ≤ N ∧ iv = .int .i64 k ∧ Hid (Kept (fun _ => False) w wr)) (fun iv _ => N - (intOf iv).toNat)
  case atStart => exact ⟨0, by omega, rfl, Lib.hid (Kept.refl _ _)⟩
  case round =>
    obtain ⟨k, hk, rfl, hkw⟩ := hrel
    by_cases hlt : k < N
    · have l1 : (k : Int) < (N : Int) := by omega
      have l0 : (0 : Int) ≤ (k : Int) := by omega
      obtain ⟨g, off, rfl, hg, hc⟩ := (HV.out.kept hkw.out (fun _ _ h => h)).at (k := k) (by have := HN.out; omega)
      obtain ⟨g2, off2, rfl, hg2, hc2⟩ := (HU.out.kept (hkw.out.then (Kept.alloc _ _ (.cells #[.int .i64 (l.getD k ent0).u, .int .i64 (l.getD k ent0).r, .int .i64 (l.getD k ent0).t] 87))) (fun _ _ h => h)).at (k := k) (by have := HN.out; omega)
      generalize l.getD k ent0 = x at hc hc2 hg2
      have HI := Lib.hid (is1_any x)
      have HKx := Lib.hid ((hkw.out.then (Kept.alloc _ _ (.cells #[.int .i64 x.u, .int .i64 x.r, .int .i64 x.t] 87))).then (Kept.alloc _ _ (.cells #[.int .i64 x.u, .int .i64 x.r, .int .i64 x.t] 31)))
      obtain ⟨xu, xr, xt⟩ := x
      obtain ⟨c0, c1, c2⟩ := hc
      obtain ⟨d0, d1, d2⟩ := hc2
      unfold entV at HI
      simp only at c0 c1 c2 d0 d1 d2 HI HKx
      clear hg hg2
      go_wp2_with (first
        | (go_at_call 56; refine (HI.out _).mono ?_; rintro e w3 ⟨rfl, k3⟩
           have HK3 := Lib.hid (HKx.out.then k3)
           clear k3))
      go_roundw
      case rel => first | exact ⟨k + 1, by omega, by go_num, HK3⟩ | ((repeat apply Exists.intro); exact ⟨⟨k + 1, by omega, by go_num, HK3⟩, rfl⟩)
      case measure => simp [intOf]; omega
    · obtain rfl : k = N := by omega
      go_wp2_with fail
      go_ret
      exact ⟨rfl, hkw.out⟩

set_option maxRecDepth 100000 in
set_option maxHeartbeats 3200000 in
theorem lis_any (w : World) (v lv : Value) (M : Nat) (H : Nat → List Ent) (h : BookV w v M H) (hM : M ≤ 1000) (hl : Ents w lv (allE H)) :
    Calls Tryd.prog 21 #[v, lv] w fun e w' => e = .returned (.bool true) ∧ Kept (fun _ => False) w w' := by
  have HLen := Lib.hid (mlen_any w v M H h hM)
  have HEn := Lib.hid (entries_any w v M H h hM)
  have HL := Lib.hid hl
  obtain ⟨bb, hv, rfl, -, -⟩ := h
  obtain ⟨a, c, rfl, _, _⟩ := hl.form
  generalize allE H = l at *
  clear hl
  go_enter Tryd.func21, Tryd.ntmps21
  go_wp2_with (first
    | (go_at_call 36; with_reducible refine HLen.out.mono ?_; rintro e w1 ⟨rfl, rfl⟩)
    | (go_at_call 44; with_reducible refine HEn.out.mono ?_; rintro e w2 ⟨v2, rfl, o2, k2⟩
       have O2 := Lib.hid o2.ents; have K2 := Lib.hid k2
       clear o2 k2)
    | (go_at_call 55; refine (equalF_any w2 _ _ l O2.out (HL.out.kept K2.out (fun _ _ h => h))).mono ?_; rintro e w3 ⟨rfl, k3⟩
       have K3 := Lib.hid (K2.out.then k3)
       clear k3))
  go_ret
  exact ⟨rfl, K3.out⟩

set_option maxRecDepth 100000 in
set_option maxHeartbeats 3200000 in
theorem equalM_any (w : World) (v u : Value) (l m : List Ent) (hv : Ents w v l) (hu : Ents w u m) :
    Calls Tryd.prog 68 #[v, u] w fun e w' => e = .returned (.bool (decide (l = m))) ∧ Kept (fun _ => False) w w' := by
  obtain ⟨a, c, rfl, h1, h2⟩ := hv.form
  obtain ⟨a2, c2, rfl, h3, h4⟩ := hu.form
  have HV := Lib.hid hv; have HU := Lib.hid hu
  obtain ⟨qb, hqb⟩ : ∃ qb, qb = decide (l = m) := ⟨_, rfl⟩
  rw [← hqb]
  have HQb := Lib.hid hqb
  clear hqb
  by_cases hlen : l.length = m.length
  · obtain ⟨N, hN⟩ : ∃ N, N = l.length := ⟨_, rfl⟩
    rw [← hlen, ← hN] at HU h3 ⊢
    rw [← hN] at HV h1
    have HN := Lib.hid hN; have HNm := Lib.hid (hN.trans hlen)
    unfold maxLen at h2 h4
    clear hv hu hN hlen
    go_enter Tryd.func68, Tryd.ntmps68
    go_wp2_with fail
    go_loopw [13] (fun iv wr => ∃ k : Nat, k ≤ N ∧ iv = .int .i64 k ∧ Hid (∀ j, j < k → l.getD j ent0 = m.getD j ent0) ∧ Hid (Kept (fun _ => False) w wr)) (fun iv _ => N - (intOf iv).toNat)
    case atStart => exact ⟨0, by omega, rfl, Lib.hid (fun j hj => absurd hj (by omega)), Lib.hid (Kept.refl _ _)⟩
    case round =>
      obtain ⟨k, hk, rfl, heq, hkw⟩ := hrel
      by_cases hlt : k < N
      · have l1 : (k : Int) < (N : Int) := by omega
        have l0 : (0 : Int) ≤ (k : Int) := by omega
        obtain ⟨g, off, rfl, hg, hc⟩ := (HV.out.kept hkw.out (fun _ _ h => h)).at (k := k) (by have := HN.out; omega)
        obtain ⟨g2, off2, rfl, hg2, hc2⟩ := (HU.out.kept hkw.out (fun _ _ h => h)).at (k := k) (by have := HNm.out; omega)
        have HK := Lib.hid (fun n => hkw.out.drewN n)
        by_cases hxy : l.getD k ent0 = m.getD k ent0
        · have HQ : Hid (∀ j, j < k + 1 → l.getD j ent0 = m.getD j ent0) := Lib.hid fun j hj => by
            rcases Nat.lt_or_ge j k with h | h
            · exact heq.out j h
            · obtain rfl : j = k := by omega
              exact hxy
          rw [← hxy] at hc2
          generalize l.getD k ent0 = x at hc hc2
          obtain ⟨xu, xr, xt⟩ := x
          obtain ⟨c0, c1, c2⟩ := hc
          obtain ⟨d0, d1, d2⟩ := hc2
          simp only at c0 c1 c2 d0 d1 d2
          clear hg hg2 hxy heq
          go_wp2_with fail
          go_quiet (fail)
          have HE := Lib.hid (HK.out nq)
          clear c0 c1 c2 d0 d1 d2 HK
          generalize wr.drewN nq = wd at *
          go_wp2_with fail
          go_roundw
          case rel => first | exact ⟨k + 1, by omega, by go_num, HQ, HE⟩ | ((repeat apply Exists.intro); exact ⟨⟨k + 1, by omega, by go_num, HQ, HE⟩, rfl⟩)
          case measure => simp [intOf]; omega
        · have hne : decide (l = m) = false := decide_eq_false (fun e => hxy (by rw [e]))
          obtain rfl : qb = false := HQb.out.trans hne
          generalize l.getD k ent0 = x at hc hxy
          generalize m.getD k ent0 = y at hc2 hxy
          obtain ⟨xu, xr, xt⟩ := x
          obtain ⟨yu, yr, yt⟩ := y
          obtain ⟨c0, c1, c2⟩ := hc
          obtain ⟨d0, d1, d2⟩ := hc2
          simp only at c0 c1 c2 d0 d1 d2
          have hcase : ¬ xu = yu ∨ (xu = yu ∧ ¬ xr = yr) ∨ (xu = yu ∧ xr = yr ∧ ¬ xt = yt) := by
            by_cases e1 : xu = yu
            · by_cases e2 : xr = yr
              · exact Or.inr (Or.inr ⟨e1, e2, fun e3 => hxy (by rw [e1, e2, e3])⟩)
              · exact Or.inr (Or.inl ⟨e1, e2⟩)
            · exact Or.inl e1
          clear hg hg2 hxy heq hne
          rcases hcase with e1 | ⟨rfl, e2⟩ | ⟨rfl, rfl, e3⟩
          all_goals
            go_wp2_with fail
            go_quiet (fail)
            have HE := Lib.hid (HK.out nq)
            clear c0 c1 c2 d0 d1 d2 HK
            generalize wr.drewN nq = wd at *
            go_wp2_with fail
            go_ret
            exact ⟨rfl, HE.out⟩
      · obtain rfl : k = N := by omega
        have hyes : decide (l = m) = true := decide_eq_true (List.ext_getElem (by rw [← HN.out, ← HNm.out]) (fun j hj1 hj2 => by
          have := heq.out j (by have := HN.out; omega)
          simpa [List.getD, hj1, hj2] using this))
        obtain rfl : qb = true := HQb.out.trans hyes
        clear hyes
        go_wp2_with fail
        go_ret
        exact ⟨rfl, hkw.out⟩
  · have hne : decide (l = m) = false := decide_eq_false (fun e => hlen (by rw [e]))
    obtain rfl : qb = false := HQb.out.trans hne
    have hl2 : ¬ ((l.length : Int) = (m.length : Int)) := by omega
    clear hv hu hne hlen
    go_enter Tryd.func68, Tryd.ntmps68
    go_wp2_with fail
    go_ret
    exact ⟨rfl, Kept.refl _ _⟩

set_option maxRecDepth 100000 in
set_option maxHeartbeats 3200000 in
theorem equalR_any (w : World) (v u : Value) (l m : List Ent) (hv : Ents w v l) (hu : Ents w u m) :
    Calls Tryd.prog 38 #[v, u] w fun e w' => e = .returned (.bool (decide (l = m))) ∧ Kept (fun _ => False) w w' := by
  obtain ⟨a, c, rfl, h1, h2⟩ := hv.form
  obtain ⟨a2, c2, rfl, h3, h4⟩ := hu.form
  have HV := Lib.hid hv; have HU := Lib.hid hu
  obtain ⟨qb, hqb⟩ : ∃ qb, qb = decide (l = m) := ⟨_, rfl⟩
  rw [← hqb]
  have HQb := Lib.hid hqb
  clear hqb
  by_cases hlen : l.length = m.length
  · obtain ⟨N, hN⟩ : ∃ N, N = l.length := ⟨_, rfl⟩
    rw [← hlen, ← hN] at HU h3 ⊢
    rw [← hN] at HV h1
    have HN := Lib.hid hN; have HNm := Lib.hid (hN.trans hlen)
    unfold maxLen at h2 h4
    clear hv hu hN hlen
    go_enter Tryd.func38, Tryd.ntmps38
    go_wp2_with fail
    go_loopw [13] (fun iv wr => ∃ k : Nat, k ≤ N ∧ iv = .int .i64 k ∧ Hid (∀ j, j < k → l.getD j ent0 = m.getD j ent0) ∧ Hid (Kept (fun _ => False) w wr)) (fun iv _ => N - (intOf iv).toNat)
    case atStart => exact ⟨0, by omega, rfl, Lib.hid (fun j hj => absurd hj (by omega)), Lib.hid (Kept.refl _ _)⟩
    case round =>
      obtain ⟨k, hk, rfl, heq, hkw⟩ := hrel
      by_cases hlt : k < N
      · have l1 : (k : Int) < (N : Int) := by omega
        have l0 : (0 : Int) ≤ (k : Int) := by omega
        obtain ⟨g, off, rfl, hg, hc⟩ := (HV.out.kept hkw.out (fun _ _ h => h)).at (k := k) (by have := HN.out; omega)
        obtain ⟨g2, off2, rfl, hg2, hc2⟩ := (HU.out.kept hkw.out (fun _ _ h => h)).at (k := k) (by have := HNm.out; omega)
        have HK := Lib.hid (fun n => hkw.out.drewN n)
        by_cases hxy : l.getD k ent0 = m.getD k ent0
        · have HQ : Hid (∀ j, j < k + 1 → l.getD j ent0 = m.getD j ent0) := Lib.hid fun j hj => by
            rcases Nat.lt_or_ge j k with h | h
            · exact heq.out j h
            · obtain rfl : j = k := by omega
              exact hxy
          rw [← hxy] at hc2
          generalize l.getD k ent0 = x at hc hc2
          obtain ⟨xu, xr, xt⟩ := x
          obtain ⟨c0, c1, c2⟩ := hc
          obtain ⟨d0, d1, d2⟩ := hc2
          simp only at c0 c1 c2 d0 d1 d2
          clear hg hg2 hxy heq
          go_wp2_with fail
          go_quiet (fail)
          have HE := Lib.hid (HK.out nq)
          clear c0 c1 c2 d0 d1 d2 HK
          generalize wr.drewN nq = wd at *
          go_wp2_with fail
          go_roundw
          case rel => first | exact ⟨k + 1, by omega, by go_num, HQ, HE⟩ | ((repeat apply Exists.intro); exact ⟨⟨k + 1, by omega, by go_num, HQ, HE⟩, rfl⟩)
          case measure => simp [intOf]; omega
        · have hne : decide (l = m) = false := decide_eq_false (fun e => hxy (by rw [e]))
          obtain rfl : qb = false := HQb.out.trans hne
          generalize l.getD k ent0 = x at hc hxy
          generalize m.getD k ent0 = y at hc2 hxy
          obtain ⟨xu, xr, xt⟩ := x
          obtain ⟨yu, yr, yt⟩ := y
          obtain ⟨c0, c1, c2⟩ := hc
          obtain ⟨d0, d1, d2⟩ := hc2
          simp only at c0 c1 c2 d0 d1 d2
          have hcase : ¬ xu = yu ∨ (xu = yu ∧ ¬ xr = yr) ∨ (xu = yu ∧ xr = yr ∧ ¬ xt = yt) := by
            by_cases e1 : xu = yu
            · by_cases e2 : xr = yr
              · exact Or.inr (Or.inr ⟨e1, e2, fun e3 => hxy (by rw [e1, e2, e3])⟩)
              · exact Or.inr (Or.inl ⟨e1, e2⟩)
            · exact Or.inl e1
          clear hg hg2 hxy heq hne
          rcases hcase with e1 | ⟨rfl, e2⟩ | ⟨rfl, rfl, e3⟩
          all_goals
            go_wp2_with fail
            go_quiet (fail)
            have HE := Lib.hid (HK.out nq)
            clear c0 c1 c2 d0 d1 d2 HK
            generalize wr.drewN nq = wd at *
            go_wp2_with fail
            go_ret
            exact ⟨rfl, HE.out⟩
      · obtain rfl : k = N := by omega
        have hyes : decide (l = m) = true := decide_eq_true (List.ext_getElem (by rw [← HN.out, ← HNm.out]) (fun j hj1 hj2 => by
          have := heq.out j (by have := HN.out; omega)
          simpa [List.getD, hj1, hj2] using this))
        obtain rfl : qb = true := HQb.out.trans hyes
        clear hyes
        go_wp2_with fail
        go_ret
        exact ⟨rfl, hkw.out⟩
  · have hne : decide (l = m) = false := decide_eq_false (fun e => hlen (by rw [e]))
    obtain rfl : qb = false := HQb.out.trans hne
    have hl2 : ¬ ((l.length : Int) = (m.length : Int)) := by omega
    clear hv hu hne hlen
    go_enter Tryd.func38, Tryd.ntmps38
    go_wp2_with fail
    go_ret
    exact ⟨rfl, Kept.refl _ _⟩

set_option maxRecDepth 100000 in
set_option maxHeartbeats 3200000 in
theorem mequal_any (w : World) (v u : Value) (M N : Nat) (H G : Nat → List Ent) (hv : BookV w v M H) (hu : BookV w u N G) (hM : M ≤ 1000) (hN : N ≤ 1000) :
    Calls Tryd.prog 35 #[v, u] w fun e w' => e = .returned (.bool (decide (allE H = allE G))) ∧ Kept (fun _ => False) w w' := by
  have HV := Lib.hid (entries_any w v M H hv hM)
  have HU := Lib.hid hu
  obtain ⟨b1, _, rfl, -, -⟩ := hv
  obtain ⟨b2, _, rfl, -, -⟩ := hu
  go_enter Tryd.func35, Tryd.ntmps35
  go_wp2_with fail
  refine HV.out.mono ?_
  rintro e w1 ⟨v1, rfl, o1, k1⟩
  have O1 := Lib.hid o1.ents; have K1 := Lib.hid k1
  clear o1 k1
  go_wp2_with fail
  refine (entries_any w1 _ N G (HU.out.kept K1.out) hN).mono ?_
  rintro e w2 ⟨v2, rfl, o2, k2⟩
  have O2 := Lib.hid o2.ents; have K2 := Lib.hid (K1.out.then k2)
  replace O1 := Lib.hid (O1.out.kept k2 (fun _ _ h => h))
  clear o2 k2
  go_wp2_with fail
  refine (equalM_any w2 _ _ (allE H) (allE G) O1.out O2.out).mono ?_
  rintro e w3 ⟨rfl, k3⟩
  have K3 := Lib.hid (K2.out.then k3)
  clear k3
  go_wp2_with fail
  go_ret
  exact ⟨rfl, K3.out⟩
set_option maxRecDepth 100000 in
set_option maxHeartbeats 3200000 in
theorem mequal_nil1 (w : World) (a : Addr) : Calls Tryd.prog 35 #[.pointer none, .pointer (some a)] w fun e w' => e = .returned (.bool false) ∧ w = w' := by
  go_enter Tryd.func35, Tryd.ntmps35
  go_wp2_with fail
  go_ret
  exact ⟨rfl, rfl⟩
set_option maxRecDepth 100000 in
set_option maxHeartbeats 3200000 in
theorem mequal_nil2 (w : World) (a : Addr) : Calls Tryd.prog 35 #[.pointer (some a), .pointer none] w fun e w' => e = .returned (.bool false) ∧ w = w' := by
  go_enter Tryd.func35, Tryd.ntmps35
  go_wp2_with fail
  go_ret
  exact ⟨rfl, rfl⟩
set_option maxRecDepth 100000 in
set_option maxHeartbeats 3200000 in
theorem mequal_nil3 (w : World) : Calls Tryd.prog 35 #[.pointer none, .pointer none] w fun e w' => e = .returned (.bool true) ∧ w = w' := by
  go_enter Tryd.func35, Tryd.ntmps35
  go_wp2_with fail
  go_ret
  exact ⟨rfl, rfl⟩
end Go.Proofs.YtccanbjnbmihgaaDoor
/-
  arbaclaw12.MembershipOrder: the walk.
-/
namespace Go.Proofs.YtccanbjnbmihgaaDoor
open Go.RowKit
set_option linter.unusedVariables false
set_option linter.unusedSimpArgs false

/-- All entries stand in the order. -/
theorem allE_sorted {H : Nat → List Ent} (h : Rows2 H) : (allE H).Pairwise (fun a b => bef a b = true) := by
  unfold allE
  rw [List.pairwise_flatMap]
  refine ⟨fun u hu => ?_, ?_⟩
  · have hu := List.mem_range.1 hu
    have h1 := asc_pair.1 (h.asc u hu)
    refine List.Pairwise.imp_of_mem (fun {a b} ha hb hab => ?_) h1
    have e1 := h.user u hu a ha
    have e2 := h.user u hu b hb
    unfold bef; simp; omega
  · rw [List.range_eq_range']
    refine List.Pairwise.imp_of_mem (fun {a b} ha hb hab x hx y hy => ?_) (List.pairwise_lt_range' (s := 0) (n := 257) (step := 1))
    have ha := List.mem_range'_1.1 ha
    have hb := List.mem_range'_1.1 hb
    have e1 := h.user a (by omega) x hx
    have e2 := h.user b (by omega) y hy
    unfold bef; simp; omega
theorem drop_getD (l : List Ent) (k : Nat) (hk : k < l.length) : l.drop k = l.getD k ent0 :: l.drop (k + 1) := by
  rw [List.drop_eq_getElem_cons hk]; simp [List.getD, hk]
/-- The entry ahead of greater ones. -/
theorem asg_drop {l : List Ent} (h : l.Pairwise (fun a b => bef a b = true)) (k : Nat) (hk : k < l.length) : asgE (l.drop (k + 1)) (l.getD k ent0) = l.drop k := by
  rw [drop_getD l k hk]
  have h2 : (l.drop k).Pairwise (fun a b => bef a b = true) := h.sublist (List.drop_sublist k l)
  rw [drop_getD l k hk, List.pairwise_cons] at h2
  generalize l.getD k ent0 = x at h2 ⊢
  generalize l.drop (k + 1) = t at h2 ⊢
  unfold asgE
  have e : t.filter (notE x.u x.r) = t := List.filter_eq_self.2 (fun y hy => by
    have := h2.1 y hy
    unfold bef at this
    have := of_decide_eq_true this
    unfold notE; simp; omega)
  rw [e, insE_head x t (fun y hy => h2.1 y hy)]
theorem user_one {H : Nat → List Ent} (h : Rows2 H) : ∀ x ∈ allE H, 1 ≤ x.u := fun x hx => by
  obtain ⟨u, hu, hx⟩ := (allE_mem x).1 hx
  have := h.user u hu x hx
  rcases Nat.eq_zero_or_pos u with h0 | h0
  · subst h0; rw [h.none] at hx; simp at hx
  · omega

set_option maxRecDepth 100000 in
set_option maxHeartbeats 3200000 in
theorem order_law (w : World) (v v' : Value) (rs ss : List Raw3) (h : Raws w v rs) (h' : Raws w v' ss) (hL : Lb2 w) :
    Calls Tryd.prog 8 #[v, v'] w fun e w' => e = .returned (.bool true) ∧ Kept (fun _ => False) w w' := by
  have HE := Lib.hid h; have HE' := Lib.hid h'; have HL := Lib.hid hL
  obtain ⟨va, vc, hform, _, _⟩ := h.form
  obtain ⟨va', vc', hform', _, _⟩ := h'.form
  obtain ⟨N, hN⟩ : ∃ N, N = rs.length := ⟨_, rfl⟩
  obtain ⟨N', hN'⟩ : ∃ N, N = ss.length := ⟨_, rfl⟩
  rw [← hN] at hform
  rw [← hN'] at hform'
  subst hform; subst hform'
  clear h h' hL hN hN'
  go_enter Tryd.func8, Tryd.ntmps8
  go_wp2_with fail
  refine (awake12_any w HL.out).mono ?_
  rintro e w1 ⟨rfl, k1⟩
  have K1 := Lib.hid k1; clear k1
  go_wp2_with fail
  refine (lmake_any w1 _ rs (HE.out.kept K1.out)).mono ?_
  rintro e w2 ⟨bv, tl, rfl, bb2, e2, k2⟩
  have K2 := Lib.hid (K1.out.then k2)
  obtain ⟨hRw, hAl⟩ := mkH_rows (rs.take 16)
  have hLen : (mkE (rs.take 16)).length ≤ 16 := Nat.le_trans (mkE_len _) (by rw [List.length_take]; omega)
  rw [← hAl] at e2 hLen
  generalize mkH (rs.take 16) = H at bb2 e2 hRw hLen
  have B2 := Lib.hid bb2; have E2 := Lib.hid e2; have HRw := Lib.hid hRw
  obtain ⟨pb, _, rfl, -, -⟩ := bb2
  obtain ⟨ta, tc, rfl, tc1, tc2⟩ := e2.form
  clear k2 K1 hAl e2 hRw
  go_wp2_with fail
  refine (lmake_any w2 _ ss (HE'.out.kept K2.out)).mono ?_
  rintro e w3 ⟨cv, ul, rfl, b3, e3, k3⟩
  have K3 := Lib.hid (K2.out.then k3)
  obtain ⟨hRw', hAl'⟩ := mkH_rows (ss.take 16)
  rw [← hAl'] at e3
  generalize mkH (ss.take 16) = G at b3 e3
  have B3 := Lib.hid b3; have E3 := Lib.hid e3
  obtain ⟨pc, _, rfl, -, -⟩ := b3
  obtain ⟨ua, uc, rfl, _, _⟩ := e3.form
  replace B2 := Lib.hid (B2.out.kept k3); replace E2 := Lib.hid (E2.out.kept k3 (fun _ _ h => h))
  clear k3 K2 hAl' e3 hRw'
  obtain ⟨T, hT⟩ : ∃ T, T = (allE H).length := ⟨_, rfl⟩
  rw [← hT] at E2 tc1 hLen ⊢
  have HT := Lib.hid hT
  unfold maxLen at tc2
  clear hT
  have hwT : IntKind.i64.wrap ((T : Int) - 1) = (T : Int) - 1 := by rw [IntKind.wrap_i64]; omega
  go_wp2_with fail
  refine (mnew_any w3).mono ?_
  rintro e w4 ⟨dv, rfl, b4, k4⟩
  have B4 := Lib.hid b4; have K4 := Lib.hid k4
  clear b4 k4
  go_wp2_with fail
  go_loopw [9, 10] (fun dv iv wr => ∃ j : Nat, j ≤ T ∧ iv = .int .i64 ((j : Int) - 1) ∧ Hid (∃ D, BookV wr dv (T - j) D ∧ allE D = (allE H).drop j) ∧ Hid (Kept (fun _ => False) w3 wr)) (fun _ iv _ => (intOf iv + 1).toNat)
  case atStart => exact ⟨T, Nat.le_refl _, rfl, Lib.hid ⟨_, by rw [Nat.sub_self]; exact B4.out, by rw [allE_nil, HT.out, List.drop_length]⟩, K4⟩
  case round =>
    obtain ⟨j, hj, rfl, hd, hkw⟩ := hrel
    obtain ⟨D, hbd, had⟩ := hd.out
    by_cases hlt : 1 ≤ j
    · obtain ⟨k, rfl⟩ : ∃ k, j = k + 1 := ⟨j - 1, by omega⟩
      have hkk : ((k + 1 : Nat) : Int) - 1 = (k : Int) := by omega
      rw [hkk]
      have l1 : (k : Int) < (T : Int) := by omega
      have l0 : (0 : Int) ≤ (k : Int) := by omega
      obtain ⟨g, off, rfl, hg, hc⟩ := (E2.out.kept hkw.out (fun _ _ h => h)).at (k := k) (by have := HT.out; omega)
      have hst := asg_drop (allE_sorted HRw.out) k (by have := HT.out; omega)
      have hf := fitE HRw.out _ (getD_memE (allE H) k (by have := HT.out; omega))
      have hf1 := user_one HRw.out _ (getD_memE (allE H) k (by have := HT.out; omega))
      rw [← had] at hst
      generalize (allE H).getD k ent0 = x at hc hst hf hf1
      obtain ⟨xu, xr, xt⟩ := x
      obtain ⟨c0, c1, c2⟩ := hc
      simp only at c0 c1 c2 hf hf1
      obtain ⟨un, rfl⟩ : ∃ n : Nat, xu = (n : Int) := ⟨xu.toNat, by omega⟩
      obtain ⟨f1, f2, f3, f4, f5, f6⟩ := hf
      have hbd2 := hbd
      obtain ⟨pd, hvd, hp, hb, hrd⟩ := hbd2
      subst hp
      have hall := allE_put hrd ⟨(un : Int), xr, xt⟩ un (by omega) rfl
      rw [hst] at hall
      have HAs : Hid (∀ W, Kept (fun _ => False) wr W → Calls Tryd.prog 19 #[.pointer (some ⟨pd, 0, none⟩), .int .i64 (un : Int), .int .i64 xr, .int .i64 xt] W fun e w' =>
          ∃ v', e = .returned (.tuple #[v', .int .i64 0]) ∧ BookV w' v' (T - k) (upd D un (putR (D un) ⟨un, xr, xt⟩)) ∧ Kept (fun _ => False) W w') := Lib.hid fun W kw => by
        refine (assign_any W _ (T - (k + 1)) D un xr xt (hbd.kept kw) (by omega) (by omega) (by omega) (by omega) (by omega) (by omega) (by omega)).mono ?_
        rintro e w' ⟨v', he, hb', hk'⟩
        exact ⟨v', he, hb'.more (by omega), hk'⟩
      have HAl := Lib.hid hall
      have HCc : Hid (∀ W, Kept (fun _ => False) wr W → W.cell? ⟨g, off + k * 3, none⟩ = some (.int .i64 (un : Int)) ∧ W.cell? ⟨g, off + k * 3 + 1, none⟩ = some (.int .i64 xr) ∧ W.cell? ⟨g, off + k * 3 + 2, none⟩ = some (.int .i64 xt)) := Lib.hid fun W kw =>
        ⟨(kw.cell hg (fun h => h)).trans c0, (kw.cell hg (fun h => h)).trans c1, (kw.cell hg (fun h => h)).trans c2⟩
      clear hg hst hf1 hbd hb hrd hall had hd
      have hk1 : IntKind.i64.wrap ((k : Int) - 1) = (k : Int) - 1 := by rw [IntKind.wrap_i64]; omega
      go_wp2_with fail
      go_region_held3 (fun w' => w'.cell? ⟨g, off + k * 3, none⟩ = some (.int .i64 (un : Int)) ∧ w'.cell? ⟨g, off + k * 3 + 1, none⟩ = some (.int .i64 xr) ∧ w'.cell? ⟨g, off + k * 3 + 2, none⟩ = some (.int .i64 xt))
        (first | exact HCc.out _ K6.out | exact HCc.out _ (Kept.refl _ _) | exact HCc.out _ (Kept.refl _ _).drew)
        ((go_at_call 19; with_reducible refine (HAs.out _ (by first | exact Kept.refl _ _ | exact (Kept.refl _ _).drew)).mono ?_; rintro e w6 ⟨v6, rfl, b6, k6⟩; have HB6 : Hid (∃ D', BookV w6 v6 (T - k) D' ∧ allE D' = (allE H).drop k) := Lib.hid ⟨_, b6, HAl.out⟩; have K6 := Lib.hid (Kept.then (show Kept (fun _ => False) wr _ from (by first | exact Kept.refl _ _ | exact (Kept.refl _ _).drew)) k6); have HK6 := Lib.hid (hkw.out.then K6.out); clear b6 k6))
      all_goals go_wp2_with fail
      go_roundw
      case rel => first | exact ⟨k, by omega, by go_num, HB6, HK6⟩ | ((repeat apply Exists.intro); exact ⟨⟨k, by omega, by go_num, HB6, HK6⟩, rfl⟩)
      case measure => (simp [intOf]) <;> omega
    · obtain rfl : j = 0 := by omega
      rw [List.drop_zero] at had
      have BD := Lib.hid hbd; have HAd := Lib.hid had
      obtain ⟨pd, _, hp, -, -⟩ := hbd
      subst hp
      have BB := Lib.hid (B2.out.kept hkw.out); have BC := Lib.hid (B3.out.kept hkw.out)
      have ET := Lib.hid (E2.out.kept hkw.out (fun _ _ h => h)); have EU := Lib.hid (E3.out.kept hkw.out (fun _ _ h => h))
      have KW := Lib.hid (K3.out.then hkw.out)
      clear hd had hkw B2 B3 E2 E3 K3 K4 B4
      go_wp2_with fail
      refine (equalR_any wr _ _ (allE H) (allE G) ET.out EU.out).mono ?_
      obtain ⟨q, hq⟩ : ∃ q, q = decide (allE H = allE G) := ⟨_, rfl⟩
      rw [← hq]
      have HQ := Lib.hid hq
      have HQ2 : Hid (decide (allE G = allE H) = q) := Lib.hid (by rw [hq]; exact decide_eq_decide.2 ⟨fun h => h.symm, fun h => h.symm⟩)
      clear hq
      rintro e w5 ⟨rfl, j5⟩
      replace BB := Lib.hid (BB.out.kept j5); replace BC := Lib.hid (BC.out.kept j5); replace BD := Lib.hid (BD.out.kept j5)
      have K5 := Lib.hid (KW.out.then j5)
      clear j5 KW
      go_wp2_with fail
      refine (mequal_any w5 _ _ 16 16 H G BB.out BC.out (by omega) (by omega)).mono ?_
      rw [← HQ.out]
      rintro e w6 ⟨rfl, j6⟩
      replace BB := Lib.hid (BB.out.kept j6); replace BC := Lib.hid (BC.out.kept j6); replace BD := Lib.hid (BD.out.kept j6)
      have K6 := Lib.hid (K5.out.then j6)
      clear j6 K5
      have HC1 := Lib.hid (fun W hb hc => mequal_any W (.pointer (some ⟨pc, 0, none⟩)) (.pointer (some ⟨pb, 0, none⟩)) 16 16 G H hc hb (by omega) (by omega))
      have HC2 := Lib.hid (fun W hd hb => mequal_any W (.pointer (some ⟨pd, 0, none⟩)) (.pointer (some ⟨pb, 0, none⟩)) (T - 0) 16 D H hd hb (by omega) (by omega))
      rw [HQ2.out] at HC1
      rw [HAd.out, decide_eq_true rfl] at HC2
      clear HQ HQ2
      cases q
      all_goals
        go_wp2_with fail
        refine (HC1.out w6 BB.out BC.out).mono ?_
        rintro e w7 ⟨rfl, j7⟩
        replace BB := Lib.hid (BB.out.kept j7); replace BD := Lib.hid (BD.out.kept j7)
        have K7 := Lib.hid (K6.out.then j7)
        clear j7
        go_wp2_with fail
        refine (HC2.out w7 BD.out BB.out).mono ?_
        rintro e w8 ⟨rfl, j8⟩
        have K8 := Lib.hid (K7.out.then j8)
        clear j8
        go_wp2_with fail
        go_ret
        exact ⟨rfl, K8.out⟩
end Go.Proofs.YtccanbjnbmihgaaDoor
/-
  arbacref12: active, On, Users, Until; plain words of the days' answers.
-/
namespace Go.Proofs.YtccanbjnbmihgaaDoor
open Go.RowKit Go.Shelf
set_option linter.unusedVariables false
set_option linter.unusedSimpArgs false

def actR (t d : Int) : Bool := decide (0 ≤ d ∧ d ≤ 30000 ∧ d ≤ t)
set_option maxRecDepth 100000 in
set_option maxHeartbeats 1600000 in
theorem ractive_any (u r t d : Int) (w : World) : Calls Tryd.prog 62 #[.agg #[.int .i64 u, .int .i64 r, .int .i64 t], .int .i64 d] w fun e w' => e = .returned (.bool (actR t d)) ∧ Kept (fun _ => False) w w' := by
  obtain ⟨qb, hqb⟩ : ∃ qb, qb = actR t d := ⟨_, rfl⟩
  rw [← hqb]
  unfold actR at hqb
  have HQ := Lib.hid hqb
  have HK := Lib.hid (Kept.alloc (fun _ => False) w (.cells #[.int .i64 u, .int .i64 r, .int .i64 t] 31))
  clear hqb
  by_cases h1 : 0 ≤ d
  · by_cases h2 : d ≤ 30000
    · by_cases h3 : d ≤ t
      · obtain rfl : qb = true := HQ.out.trans (decide_eq_true ⟨h1, h2, h3⟩)
        go_enter Tryd.func62, Tryd.ntmps62
        go_wp2_with fail
        go_ret
        exact ⟨by simp [h1, h2, h3], HK.out⟩
      · obtain rfl : qb = false := HQ.out.trans (decide_eq_false (by omega))
        have h3' : t < d := by omega
        go_enter Tryd.func62, Tryd.ntmps62
        go_wp2_with fail
        go_ret
        exact ⟨by simp [h1, h2, h3'], HK.out⟩
    · obtain rfl : qb = false := HQ.out.trans (decide_eq_false (by omega))
      go_enter Tryd.func62, Tryd.ntmps62
      go_wp2_with fail
      go_ret
      exact ⟨by simp [h1, h2], HK.out⟩
  · obtain rfl : qb = false := HQ.out.trans (decide_eq_false (by omega))
    go_enter Tryd.func62, Tryd.ntmps62
    go_wp2_with fail
    go_ret
    exact ⟨by simp [h1], HK.out⟩

theorem filterM_take (p : Ent → Bool) (f : Ent → Int) (l : List Ent) (k : Nat) (hk : k < l.length) : ((l.take (k + 1)).filter p).map f = ((l.take k).filter p).map f ++ (if p (l.getD k ent0) then [f (l.getD k ent0)] else []) := by
  rw [filterE_take p l k hk, List.map_append]
  split <;> simp

def onP (z d : Int) (x : Ent) : Bool := decide (x.u = z) && actR x.t d
set_option maxRecDepth 100000 in
set_option maxHeartbeats 3200000 in
theorem ron_any (w : World) (v : Value) (L : List Ent) (z d : Int) (h : Ents w v L) (hl : L.length ≤ 800000) :
    Calls Tryd.prog 28 #[v, .int .i64 z, .int .i64 d] w fun e w' => ∃ v', e = .returned v' ∧ OwnI w' w.heap.size v' ((L.filter (onP z d)).map (·.r)) ∧ Kept (fun _ => False) w w' := by
  obtain ⟨a, c, rfl, h1, h2⟩ := h.form
  have HE := Lib.hid h
  obtain ⟨N, hN⟩ : ∃ N, N = L.length := ⟨_, rfl⟩
  rw [← hN] at h1 HE ⊢
  have HN := Lib.hid hN
  unfold maxLen at h2
  have hNl : N ≤ 800000 := by omega
  clear h hN hl
  go_enter Tryd.func28, Tryd.ntmps28
  go_wp2_with fail
  go_loopw [7, 12] (fun ov iv wr => ∃ k : Nat, k ≤ N ∧ iv = .int .i64 k ∧ Hid (OwnI wr w.heap.size ov (((L.take k).filter (onP z d)).map (·.r))) ∧ Hid (Kept (fun _ => False) w wr)) (fun _ iv _ => N - (intOf iv).toNat)
  case atStart => exact ⟨0, by omega, rfl, Lib.hid (OwnI.nil _ _), Lib.hid (Kept.refl _ _)⟩
  case round =>
    obtain ⟨k, hk, rfl, ho, hkw⟩ := hrel
    by_cases hlt : k < N
    · have l1 : (k : Int) < (N : Int) := by omega
      have l0 : (0 : Int) ≤ (k : Int) := by omega
      obtain ⟨g, off, rfl, hg, hc⟩ := (HE.out.kept hkw.out (fun _ _ h => h)).at (k := k) (by have := HN.out; omega)
      have HS := Lib.hid (filterM_take (onP z d) (·.r) L k (by have := HN.out; omega))
      have hfl : (((L.take k).filter (onP z d)).map (·.r)).length ≤ 900000 := by
        rw [List.length_map]
        have h3 := List.length_filter_le (onP z d) (L.take k)
        rw [List.length_take] at h3; omega
      generalize hx : L.getD k ent0 = x at hc HS
      obtain ⟨xu, xr, xt⟩ := x
      obtain ⟨c0, c1, c2⟩ := hc
      simp only at c0 c1 c2
      have HFl := Lib.hid hfl
      clear hx hfl
      generalize (((L.take k).filter (onP z d)).map (·.r)) = acc at ho HS HFl
      obtain ⟨b0, b1, b2⟩ := box3c wr xu xr xt 31
      have HK2 := Lib.hid (hkw.out.then (Kept.alloc (fun _ => False) wr (.cells #[.int .i64 xu, .int .i64 xr, .int .i64 xt] 31)))
      have HO2 : Hid (OwnI (wr.alloc (.cells #[.int .i64 xu, .int .i64 xr, .int .i64 xt] 31)) w.heap.size u7 acc) := Lib.hid (ho.out.alloc _)
      by_cases hd : xu = z
      · obtain ⟨bb, hbb⟩ : ∃ bb, bb = actR xt d := ⟨_, rfl⟩
        have HAc : Hid (∀ W, Calls Tryd.prog 62 #[.agg #[.int .i64 xu, .int .i64 xr, .int .i64 xt], .int .i64 d] W fun e w' => e = .returned (.bool bb) ∧ Kept (fun _ => False) W w') := Lib.hid fun W => by rw [hbb]; exact ractive_any xu xr xt d W
        have hp : onP z d ⟨xu, xr, xt⟩ = bb := by unfold onP; simp only; rw [decide_eq_true hd, hbb]; rfl
        have hs := HS.out
        rw [hp] at hs
        have HS2 := Lib.hid hs
        have hQ : wr.heap.size < (wr.alloc (.cells #[.int .i64 xu, .int .i64 xr, .int .i64 xt] 31)).heap.size := by simp
        clear HS hs hp hbb
        have hdd : xu = z := hd
        clear hd
        have HDD := Lib.hid hdd
        clear hdd
        go_wp2_with (simp only [show (xu == z) = true from by rw [HDD.out]; simp])
        generalize wr.alloc (.cells #[.int .i64 xu, .int .i64 xr, .int .i64 xt] 31) = W2 at *
        generalize wr.heap.size = Q at *
        refine (HAc.out W2).mono ?_
        rintro e w3 ⟨rfl, k3⟩
        have e0 : w3.cell? ⟨Q, 0, none⟩ = some (.int .i64 xu) := (k3.cell (p := ⟨Q, 0, none⟩) hQ (fun h => h)).trans b0
        have e1 : w3.cell? ⟨Q, 1, none⟩ = some (.int .i64 xr) := (k3.cell (p := ⟨Q, 1, none⟩) hQ (fun h => h)).trans b1
        have HO3 : Hid (OwnI w3 w.heap.size u7 acc) := Lib.hid ⟨k3.owns HO2.out.own (fun _ _ h => h)⟩
        have HK3 := Lib.hid (HK2.out.then k3)
        clear k3 b0 b1 b2 c0 c1 c2 HO2 HK2 ho hQ
        cases bb
        · have HO4 : Hid (OwnI w3 w.heap.size u7 (((L.take (k + 1)).filter (onP z d)).map (·.r))) := by
            have := HS2.out; rw [if_neg (by simp), List.append_nil] at this; rw [this]; exact HO3
          clear HS2
          go_wp2_with fail
          go_roundw
          case rel => first | exact ⟨k + 1, by omega, by go_num, HO4, HK3⟩ | ((repeat apply Exists.intro); exact ⟨⟨k + 1, by omega, by go_num, HO4, HK3⟩, rfl⟩)
          case measure => simp [intOf]; omega
        · have HS3 : Hid (((L.take (k + 1)).filter (onP z d)).map (·.r) = acc ++ [xr]) := by
            have := HS2.out; rw [if_pos rfl] at this; exact Lib.hid this
          clear HS2
          go_wp2_with (at_builtin
                       refine wpList_push (by rfl) _ _ rfl rfl w.heap.size _ _ w3.heap.size xr rfl rfl (HO3.out.alloc _) (by go_simp) (by have := HFl.out; omega) (by have := HK3.out.size; simp; omega) ?_
                       intro v' w5 hown5 hk5
                       have O5 : Hid (OwnI w5 w.heap.size v' (((L.take (k + 1)).filter (onP z d)).map (·.r))) := by rw [HS3.out]; exact Lib.hid hown5
                       have K5 : Hid (Kept (fun _ => False) w w5) := Lib.hid ((HK3.out.then (Kept.alloc _ _ _)).trans hk5 (fun _ _ h => h) (fun i hi e => by have := HO3.out.lt i e; omega))
                       clear hown5 hk5 e0 e1)
          go_roundw
          case rel => first | exact ⟨k + 1, by omega, by go_num, O5, K5⟩ | ((repeat apply Exists.intro); exact ⟨⟨k + 1, by omega, by go_num, O5, K5⟩, rfl⟩)
          case measure => simp [intOf]; omega
      · have hs : Hid (((L.take (k + 1)).filter (onP z d)).map (·.r) = acc) := by
          have e : onP z d ⟨xu, xr, xt⟩ = false := by unfold onP; simp only; rw [decide_eq_false hd]; rfl
          have := HS.out; rw [e] at this; exact Lib.hid (by simpa using this)
        have HO3 : Hid (OwnI (wr.alloc (.cells #[.int .i64 xu, .int .i64 xr, .int .i64 xt] 31)) w.heap.size u7 (((L.take (k + 1)).filter (onP z d)).map (·.r))) := by rw [hs.out]; exact HO2
        clear HS hs
        go_wp2_with fail
        go_roundw
        case rel => first | exact ⟨k + 1, by omega, by go_num, HO3, HK2⟩ | ((repeat apply Exists.intro); exact ⟨⟨k + 1, by omega, by go_num, HO3, HK2⟩, rfl⟩)
        case measure => simp [intOf]; omega
    · obtain rfl : k = N := by omega
      have ho2 := ho.out
      rw [List.take_of_length_le (by have := HN.out; omega)] at ho2
      have HO := Lib.hid ho2
      clear ho2 ho
      go_wp2_with fail
      go_ret
      exact ⟨_, rfl, HO.out, hkw.out⟩

def usP (z d : Int) (x : Ent) : Bool := decide (x.r = z) && actR x.t d
set_option maxRecDepth 100000 in
set_option maxHeartbeats 3200000 in
theorem rusers_any (w : World) (v : Value) (L : List Ent) (z d : Int) (h : Ents w v L) (hl : L.length ≤ 800000) :
    Calls Tryd.prog 30 #[v, .int .i64 z, .int .i64 d] w fun e w' => ∃ v', e = .returned v' ∧ OwnI w' w.heap.size v' ((L.filter (usP z d)).map (·.u)) ∧ Kept (fun _ => False) w w' := by
  obtain ⟨a, c, rfl, h1, h2⟩ := h.form
  have HE := Lib.hid h
  obtain ⟨N, hN⟩ : ∃ N, N = L.length := ⟨_, rfl⟩
  rw [← hN] at h1 HE ⊢
  have HN := Lib.hid hN
  unfold maxLen at h2
  have hNl : N ≤ 800000 := by omega
  clear h hN hl
  go_enter Tryd.func30, Tryd.ntmps30
  go_wp2_with fail
  go_loopw [7, 12] (fun ov iv wr => ∃ k : Nat, k ≤ N ∧ iv = .int .i64 k ∧ Hid (OwnI wr w.heap.size ov (((L.take k).filter (usP z d)).map (·.u))) ∧ Hid (Kept (fun _ => False) w wr)) (fun _ iv _ => N - (intOf iv).toNat)
  case atStart => exact ⟨0, by omega, rfl, Lib.hid (OwnI.nil _ _), Lib.hid (Kept.refl _ _)⟩
  case round =>
    obtain ⟨k, hk, rfl, ho, hkw⟩ := hrel
    by_cases hlt : k < N
    · have l1 : (k : Int) < (N : Int) := by omega
      have l0 : (0 : Int) ≤ (k : Int) := by omega
      obtain ⟨g, off, rfl, hg, hc⟩ := (HE.out.kept hkw.out (fun _ _ h => h)).at (k := k) (by have := HN.out; omega)
      have HS := Lib.hid (filterM_take (usP z d) (·.u) L k (by have := HN.out; omega))
      have hfl : (((L.take k).filter (usP z d)).map (·.u)).length ≤ 900000 := by
        rw [List.length_map]
        have h3 := List.length_filter_le (usP z d) (L.take k)
        rw [List.length_take] at h3; omega
      generalize hx : L.getD k ent0 = x at hc HS
      obtain ⟨xu, xr, xt⟩ := x
      obtain ⟨c0, c1, c2⟩ := hc
      simp only at c0 c1 c2
      have HFl := Lib.hid hfl
      clear hx hfl
      generalize (((L.take k).filter (usP z d)).map (·.u)) = acc at ho HS HFl
      obtain ⟨b0, b1, b2⟩ := box3c wr xu xr xt 31
      have HK2 := Lib.hid (hkw.out.then (Kept.alloc (fun _ => False) wr (.cells #[.int .i64 xu, .int .i64 xr, .int .i64 xt] 31)))
      have HO2 : Hid (OwnI (wr.alloc (.cells #[.int .i64 xu, .int .i64 xr, .int .i64 xt] 31)) w.heap.size u7 acc) := Lib.hid (ho.out.alloc _)
      by_cases hd : xr = z
      · obtain ⟨bb, hbb⟩ : ∃ bb, bb = actR xt d := ⟨_, rfl⟩
        have HAc : Hid (∀ W, Calls Tryd.prog 62 #[.agg #[.int .i64 xu, .int .i64 xr, .int .i64 xt], .int .i64 d] W fun e w' => e = .returned (.bool bb) ∧ Kept (fun _ => False) W w') := Lib.hid fun W => by rw [hbb]; exact ractive_any xu xr xt d W
        have hp : usP z d ⟨xu, xr, xt⟩ = bb := by unfold usP; simp only; rw [decide_eq_true hd, hbb]; rfl
        have hs := HS.out
        rw [hp] at hs
        have HS2 := Lib.hid hs
        have hQ : wr.heap.size < (wr.alloc (.cells #[.int .i64 xu, .int .i64 xr, .int .i64 xt] 31)).heap.size := by simp
        clear HS hs hp hbb
        have hdd : xr = z := hd
        clear hd
        have HDD := Lib.hid hdd
        clear hdd
        go_wp2_with (simp only [show (xr == z) = true from by rw [HDD.out]; simp])
        generalize wr.alloc (.cells #[.int .i64 xu, .int .i64 xr, .int .i64 xt] 31) = W2 at *
        generalize wr.heap.size = Q at *
        refine (HAc.out W2).mono ?_
        rintro e w3 ⟨rfl, k3⟩
        have e0 : w3.cell? ⟨Q, 0, none⟩ = some (.int .i64 xu) := (k3.cell (p := ⟨Q, 0, none⟩) hQ (fun h => h)).trans b0
        have e1 : w3.cell? ⟨Q, 1, none⟩ = some (.int .i64 xr) := (k3.cell (p := ⟨Q, 1, none⟩) hQ (fun h => h)).trans b1
        have HO3 : Hid (OwnI w3 w.heap.size u7 acc) := Lib.hid ⟨k3.owns HO2.out.own (fun _ _ h => h)⟩
        have HK3 := Lib.hid (HK2.out.then k3)
        clear k3 b0 b1 b2 c0 c1 c2 HO2 HK2 ho hQ
        cases bb
        · have HO4 : Hid (OwnI w3 w.heap.size u7 (((L.take (k + 1)).filter (usP z d)).map (·.u))) := by
            have := HS2.out; rw [if_neg (by simp), List.append_nil] at this; rw [this]; exact HO3
          clear HS2
          go_wp2_with fail
          go_roundw
          case rel => first | exact ⟨k + 1, by omega, by go_num, HO4, HK3⟩ | ((repeat apply Exists.intro); exact ⟨⟨k + 1, by omega, by go_num, HO4, HK3⟩, rfl⟩)
          case measure => simp [intOf]; omega
        · have HS3 : Hid (((L.take (k + 1)).filter (usP z d)).map (·.u) = acc ++ [xu]) := by
            have := HS2.out; rw [if_pos rfl] at this; exact Lib.hid this
          clear HS2
          go_wp2_with (at_builtin
                       refine wpList_push (by rfl) _ _ rfl rfl w.heap.size _ _ w3.heap.size xu rfl rfl (HO3.out.alloc _) (by go_simp) (by have := HFl.out; omega) (by have := HK3.out.size; simp; omega) ?_
                       intro v' w5 hown5 hk5
                       have O5 : Hid (OwnI w5 w.heap.size v' (((L.take (k + 1)).filter (usP z d)).map (·.u))) := by rw [HS3.out]; exact Lib.hid hown5
                       have K5 : Hid (Kept (fun _ => False) w w5) := Lib.hid ((HK3.out.then (Kept.alloc _ _ _)).trans hk5 (fun _ _ h => h) (fun i hi e => by have := HO3.out.lt i e; omega))
                       clear hown5 hk5 e0 e1)
          go_roundw
          case rel => first | exact ⟨k + 1, by omega, by go_num, O5, K5⟩ | ((repeat apply Exists.intro); exact ⟨⟨k + 1, by omega, by go_num, O5, K5⟩, rfl⟩)
          case measure => simp [intOf]; omega
      · have hs : Hid (((L.take (k + 1)).filter (usP z d)).map (·.u) = acc) := by
          have e : usP z d ⟨xu, xr, xt⟩ = false := by unfold usP; simp only; rw [decide_eq_false hd]; rfl
          have := HS.out; rw [e] at this; exact Lib.hid (by simpa using this)
        have HO3 : Hid (OwnI (wr.alloc (.cells #[.int .i64 xu, .int .i64 xr, .int .i64 xt] 31)) w.heap.size u7 (((L.take (k + 1)).filter (usP z d)).map (·.u))) := by rw [hs.out]; exact HO2
        clear HS hs
        go_wp2_with fail
        go_roundw
        case rel => first | exact ⟨k + 1, by omega, by go_num, HO3, HK2⟩ | ((repeat apply Exists.intro); exact ⟨⟨k + 1, by omega, by go_num, HO3, HK2⟩, rfl⟩)
        case measure => simp [intOf]; omega
    · obtain rfl : k = N := by omega
      have ho2 := ho.out
      rw [List.take_of_length_le (by have := HN.out; omega)] at ho2
      have HO := Lib.hid ho2
      clear ho2 ho
      go_wp2_with fail
      go_ret
      exact ⟨_, rfl, HO.out, hkw.out⟩

/-- What the reference's Until returns. -/
def runt (L : List Ent) (u r : Int) : Int := match L.find? (fun x => decide (x.u = u ∧ x.r = r)) with
  | some x => x.t
  | none => -1
set_option maxRecDepth 100000 in
set_option maxHeartbeats 3200000 in
theorem runtil_any (w : World) (v : Value) (L : List Ent) (u r : Int) (h : Ents w v L) :
    Calls Tryd.prog 24 #[v, .int .i64 u, .int .i64 r] w fun e w' => e = .returned (.int .i64 (runt L u r)) ∧ Kept (fun _ => False) w w' := by
  obtain ⟨a, c, rfl, h1, h2⟩ := h.form
  have HE := Lib.hid h
  obtain ⟨N, hN⟩ : ∃ N, N = L.length := ⟨_, rfl⟩
  rw [← hN] at h1 HE ⊢
  have HN := Lib.hid hN
  unfold maxLen at h2
  obtain ⟨R, hR⟩ : ∃ R, R = runt L u r := ⟨_, rfl⟩
  rw [← hR]
  have HR := Lib.hid hR
  clear h hN hR
  go_enter Tryd.func24, Tryd.ntmps24
  go_wp2_with fail
  go_loopw [11] (fun iv wr => ∃ k : Nat, k ≤ N ∧ iv = .int .i64 k ∧ Hid (∀ j, j < k → ¬ ((L.getD j ent0).u = u ∧ (L.getD j ent0).r = r)) ∧ Hid (Kept (fun _ => False) w wr)) (fun iv _ => N - (intOf iv).toNat)
  case atStart => exact ⟨0, by omega, rfl, Lib.hid (fun j hj => absurd hj (by omega)), Lib.hid (Kept.refl _ _)⟩
  case round =>
    obtain ⟨k, hk, rfl, hlo, hkw⟩ := hrel
    by_cases hlt : k < N
    · have l1 : (k : Int) < (N : Int) := by omega
      have l0 : (0 : Int) ≤ (k : Int) := by omega
      obtain ⟨g, off, rfl, hg, hc⟩ := (HE.out.kept hkw.out (fun _ _ h => h)).at (k := k) (by have := HN.out; omega)
      have HK2 := Lib.hid (hkw.out.then (Kept.alloc (fun _ => False) wr (.cells #[.int .i64 (L.getD k ent0).u, .int .i64 (L.getD k ent0).r, .int .i64 (L.getD k ent0).t] 31)))
      by_cases hm : (L.getD k ent0).u = u ∧ (L.getD k ent0).r = r
      · have hres : R = (L.getD k ent0).t := by
          rw [HR.out]
          unfold runt
          have : L.find? (fun x => decide (x.u = u ∧ x.r = r)) = some (L.getD k ent0) := by
            have hkl : k < L.length := by have := HN.out; omega
            rw [List.find?_eq_some_iff_getElem]
            refine ⟨by simpa using hm, k, hkl, by simp [List.getD, hkl], fun j hj => ?_⟩
            have := hlo.out j hj
            rw [show L.getD j ent0 = L[j] by simp [List.getD, show j < L.length by omega]] at this
            simp only [Bool.not_eq_true', decide_eq_false_iff_not]
            exact this
          rw [this]
        have HRes := Lib.hid hres
        clear hres
        generalize L.getD k ent0 = x at hc HK2 hm HRes
        obtain ⟨xu, xr, xt⟩ := x
        obtain ⟨c0, c1, c2⟩ := hc
        obtain ⟨m1, m2⟩ := hm
        simp only at c0 c1 c2 m1 m2 HK2 HRes
        subst m1; subst m2
        obtain rfl : R = xt := HRes.out
        clear hg hlo HR HRes
        go_wp2_with fail
        go_ret
        exact ⟨rfl, HK2.out⟩
      · have hI : Hid (∀ j, j < k + 1 → ¬ ((L.getD j ent0).u = u ∧ (L.getD j ent0).r = r)) := Lib.hid fun j hj => by
          rcases Nat.lt_or_ge j k with h | h
          · exact hlo.out j h
          · obtain rfl : j = k := by omega
            exact hm
        generalize L.getD k ent0 = x at hc HK2 hm
        obtain ⟨xu, xr, xt⟩ := x
        obtain ⟨c0, c1, c2⟩ := hc
        simp only at c0 c1 c2 hm HK2
        clear hg hlo
        by_cases m1 : xu = u
        · have m2 : ¬ xr = r := fun h => hm ⟨m1, h⟩
          subst m1
          clear hm
          go_wp2_with fail
          go_roundw
          case rel => first | exact ⟨k + 1, by omega, by go_num, hI, HK2⟩ | ((repeat apply Exists.intro); exact ⟨⟨k + 1, by omega, by go_num, hI, HK2⟩, rfl⟩)
          case measure => simp [intOf]; omega
        · clear hm
          go_wp2_with fail
          go_roundw
          case rel => first | exact ⟨k + 1, by omega, by go_num, hI, HK2⟩ | ((repeat apply Exists.intro); exact ⟨⟨k + 1, by omega, by go_num, hI, HK2⟩, rfl⟩)
          case measure => simp [intOf]; omega
    · obtain rfl : k = N := by omega
      have hres : R = -1 := by
        rw [HR.out]
        unfold runt
        have : L.find? (fun x => decide (x.u = u ∧ x.r = r)) = none := by
          rw [List.find?_eq_none]
          intro x hx
          obtain ⟨j, hj, rfl⟩ := List.getElem_of_mem hx
          have := hlo.out j (by have := HN.out; omega)
          rw [show L.getD j ent0 = L[j] by simp [List.getD, hj]] at this
          simpa using this
        rw [this]
      subst hres
      clear HR
      go_wp2_with fail
      go_ret
      exact ⟨rfl, hkw.out⟩

end Go.Proofs.YtccanbjnbmihgaaDoor
/-
  bits: slices.Clone of words; Below; Minus; Without; Or; And.
-/
namespace Go.Proofs.YtccanbjnbmihgaaDoor
open Go.RowKit

end Go.Proofs.YtccanbjnbmihgaaDoor
/-
  bits.Set.Minus.
-/
namespace Go.Proofs.YtccanbjnbmihgaaDoor
open Go.RowKit

/-- The boxes of two sets and of the result, in the worlds that follow. -/
structure Bx (w W : World) (lo1 lo2 : Nat) (v1 v2 : Value) : Prop where
  c0 : W.cell? ⟨w.heap.size, 0, none⟩ = some (.int .u64 (lo1 : Int))
  c1 : W.cell? ⟨w.heap.size, 1, none⟩ = some v1
  d0 : W.cell? ⟨w.heap.size + 1, 0, none⟩ = some (.int .u64 (lo2 : Int))
  d1 : W.cell? ⟨w.heap.size + 1, 1, none⟩ = some v2
  r0 : W.cell? ⟨w.heap.size + 1 + 1, 0, none⟩ = some (.int .u64 0)
  r1 : W.cell? ⟨w.heap.size + 1 + 1, 1, none⟩ = some (.slice none 0 0)
  f0 : W.frozen? ⟨w.heap.size + 1 + 1, 0, none⟩ = false
  f1 : W.frozen? ⟨w.heap.size + 1 + 1, 1, none⟩ = false
  lt : w.heap.size + 1 + 1 < W.heap.size
  kept : Kept (fun _ => False) w W

def bxW (w : World) (lo1 lo2 : Nat) (a1 : Option Addr) (n1 c1 : Nat) (a2 : Option Addr) (n2 c2 : Nat) : World :=
  ((w.alloc (.cells #[.int .u64 lo1, .slice a1 n1 c1] 56)).alloc (.cells #[.int .u64 lo2, .slice a2 n2 c2] 56)).alloc (.cells #[.int .u64 0, .slice none 0 0] 56)
theorem Bx.new (w : World) (lo1 lo2 : Nat) (a1 : Option Addr) (n1 c1 : Nat) (a2 : Option Addr) (n2 c2 : Nat) : Bx w (bxW w lo1 lo2 a1 n1 c1 a2 n2 c2) lo1 lo2 (.slice a1 n1 c1) (.slice a2 n2 c2) := by
  unfold bxW
  exact ⟨by go_simp, by go_simp, by go_simp, by go_simp, by go_simp, by go_simp, by go_simp, by go_simp, by simp, ((Kept.alloc _ _ _).then (Kept.alloc _ _ _)).then (Kept.alloc _ _ _)⟩
theorem Bx.on {w a b : World} {lo1 lo2 : Nat} {v1 v2 : Value} {S : Nat → Prop} (h : Bx w a lo1 lo2 v1 v2) (hk : Kept S a b) (hn : ∀ k, k ≤ w.heap.size + 2 → ¬ S k) : Bx w b lo1 lo2 v1 v2 := by
  have lt := h.lt
  exact ⟨(hk.cell (p := ⟨w.heap.size, 0, none⟩) (by simp; omega) (hn _ (by simp))).trans h.c0, (hk.cell (p := ⟨w.heap.size, 1, none⟩) (by simp; omega) (hn _ (by simp))).trans h.c1,
    (hk.cell (p := ⟨w.heap.size + 1, 0, none⟩) (by simp; omega) (hn _ (by simp))).trans h.d0, (hk.cell (p := ⟨w.heap.size + 1, 1, none⟩) (by simp; omega) (hn _ (by simp))).trans h.d1,
    (hk.cell (p := ⟨w.heap.size + 1 + 1, 0, none⟩) (by simp; omega) (hn _ (by simp))).trans h.r0, (hk.cell (p := ⟨w.heap.size + 1 + 1, 1, none⟩) (by simp; omega) (hn _ (by simp))).trans h.r1,
    (hk.frozen (p := ⟨w.heap.size + 1 + 1, 0, none⟩) (by simp; omega) (hn _ (by simp))).trans h.f0, (hk.frozen (p := ⟨w.heap.size + 1 + 1, 1, none⟩) (by simp; omega) (hn _ (by simp))).trans h.f1,
    Nat.lt_of_lt_of_le lt hk.size, h.kept.trans hk (fun _ _ h => h) (fun i hi hs => hn i (by omega) hs)⟩
theorem Bx.fin {w W : World} {lo1 lo2 : Nat} {v1 v2 : Value} (h : Bx w W lo1 lo2 v1 v2) (x y : Value) : Kept (fun _ => False) w ((W.setCell ⟨w.heap.size + 1 + 1, 0, none⟩ x).setCell ⟨w.heap.size + 1 + 1, 1, none⟩ y) :=
  h.kept.trans ((Kept.setCell (fun k => k = w.heap.size + 1 + 1) _ ⟨w.heap.size + 1 + 1, 0, none⟩ x rfl).trans (Kept.setCell (fun k => k = w.heap.size + 1 + 1) _ ⟨w.heap.size + 1 + 1, 1, none⟩ y rfl) (fun _ _ h => h) (fun _ _ h => h)) (fun _ _ h => h) (fun i hi e => by omega)

/-- A result whose words were trimmed. -/
theorem trim_set {w W W' : World} {v hv : Value} {N n lo : Nat} {hs : List Nat} (ht : TrimRes W v hs hv) (hh : hs = wl (N / 2 ^ 64) n) (hN : N / 2 ^ 64 < 2 ^ (64 * n)) (hlo : lo = N % 2 ^ 64) (hk : Kept (fun k => k = w.heap.size + 1 + 1) W W') (hb : ∀ k, v.ownBlock = some k → k ≠ w.heap.size + 1 + 1) :
    SetV W' (.agg #[.int .u64 lo, hv]) N ∧ (∀ k, hv.ownBlock = some k → v.ownBlock = some k) := by
  obtain ⟨t, h1, h2, h3, h4⟩ := ht.ex
  subst hh
  have hcan := h1.canon hN
  have hbl : ∀ k, hv.ownBlock = some k → v.ownBlock = some k := fun k hk2 => by
    rcases h4 with h4 | h4
    · rw [h4] at hk2; cases hk2
    · rw [← h4]; exact hk2
  refine ⟨⟨⟨hv, _, by rw [hlo], h2.kept hk (fun k hk2 e => hb k (hbl k hk2) e), hcan, fun hnil => ?_⟩⟩, hbl⟩
  refine h3 ?_
  have := congrArg List.length hnil
  have hle := h1.le
  rw [List.length_take, wl_length, List.length_nil] at this
  rw [wl_length] at hle
  omega

theorem row_form2 {W : World} {base : Nat} {e : TypeId} {size : Nat} {v : Value} {k : Nat} {xs : List Value} (h : W.ownsRow base e size v k xs) : (∃ a c, v = .slice a k c) ∧ ∀ r, v.ownBlock = some r → base ≤ r := by
  obtain ⟨_, hh⟩ := h
  rcases hh with ⟨rfl, rfl⟩ | ⟨g, cap, cur, rfl, hb, _⟩
  · exact ⟨⟨_, _, rfl⟩, fun r hr => by cases hr⟩
  · exact ⟨⟨_, _, rfl⟩, fun r hr => by have : g = r := by simpa [Value.ownBlock] using hr
                                       omega⟩
theorem row_slice2 {W : World} {base : Nat} {e : TypeId} {size : Nat} {a : Option Addr} {c k : Nat} {xs : List Value} (h : W.ownsRow base e size (.slice a k c) k xs) (hk : 0 < k) : ∃ g, a = some ⟨g, 0, none⟩ := by
  obtain ⟨_, hh⟩ := h
  rcases hh with ⟨_, h0⟩ | ⟨g, cap, cur, he, _⟩
  · omega
  · cases he; exact ⟨g, rfl⟩
/-- A row of words reads as words. -/
theorem words_row {W : World} {base : Nat} {v : Value} {n : Nat} {xs : List Nat} (h : W.ownsRow base 53 1 v n (wv xs)) : Words W v xs := by
  have hl := h.1
  have h0 := h
  rw [wv_length, Nat.mul_one] at hl
  obtain ⟨_, hh⟩ := h
  rcases hh with ⟨rfl, rfl⟩ | ⟨g, cap, cur, rfl, hb, hg, h1, h2, h3, h4⟩
  · exact Or.inl ⟨rfl, List.length_eq_zero_iff.1 hl⟩
  · refine Or.inr ⟨g, 0, cap, by rw [hl], by omega, h2, (Array.getElem?_eq_some_iff.1 hg).1, fun i hi => ?_⟩
    rw [Nat.zero_add, h0.cellAt i (by omega), wv_getD xs i hi]

end Go.Proofs.YtccanbjnbmihgaaDoor
/-
  (bits.Set).Greatest and (bits.Set).Bytes.
-/
namespace Go.Proofs.YtccanbjnbmihgaaDoor
open Go.RowKit

theorem bv_set (xs : List Nat) (i z : Nat) : (bv xs).set i (.int .u8 (z : Int)) = bv (xs.set i z) := by simp [bv]
theorem bv_getD (xs : List Nat) (i : Nat) (h : i < xs.length) : (bv xs)[i]? = some (.int .u8 (xs.getD i 0 : Nat)) := by simp [bv, List.getD, h]
theorem bv_zero (n : Nat) : (madeCells #[Value.int .u8 0] n).toList = bv (List.replicate n 0) := by
  refine List.ext_getElem (by simp [madeCells, bv]) fun i h1 h2 => ?_
  simp [madeCells, bv, Nat.mod_one]
theorem info_u8b : (Tryd.prog.info? 5).map (fun i => (i.zero, i.size, i.bytes)) = some (some (.int .u8 0), 1, 1) := by kernel_rfl

theorem pad_getD (M k m : Nat) : (bl8 M k ++ List.replicate m 0).getD k 0 = 0 := by
  rw [List.getD_eq_getElem?_getD, List.getElem?_append_right (by simp [bl8])]
  simp only [bl8_length, Nat.sub_self, List.getElem?_replicate]
  split <;> rfl

theorem byte_shift (y S b : Nat) (h : b = y / 2 ^ S % 256) : IntKind.u8.wrap ((y : Int) / 2 ^ S) = (b : Int) := by
  rw [IntKind.wrap_u8', h]
  simp

end Go.Proofs.YtccanbjnbmihgaaDoor
/-
  bits.Set.Compare: the least difference of two sets, and the order.
-/
namespace Go.Proofs.YtccanbjnbmihgaaDoor
open Go.RowKit

/-- The least member of one set only. -/
structure LD (M K d : Nat) : Prop where
  ne : M.testBit d ≠ K.testBit d
  eq : ∀ i, i < d → M.testBit i = K.testBit i
theorem LD.uniq {M K d e : Nat} (h : LD M K d) (k : LD M K e) : d = e := by
  rcases Nat.lt_trichotomy d e with h1 | h1 | h1
  · exact absurd (k.eq d h1) h.ne
  · exact h1
  · exact absurd (h.eq e h1) k.ne
theorem wordN_at {M k i : Nat} (hi : i < 64) : (wordN M k).testBit i = M.testBit (64 * k + i) := by
  rw [wordN_bit]; simp [hi, Nat.add_comm]
theorem eq_words {M K N : Nat} (hM : M < 2 ^ (64 * N)) (hK : K < 2 ^ (64 * N)) (h : ∀ j, j < N → wordN M j = wordN K j) : M = K := by
  refine Nat.eq_of_testBit_eq fun i => ?_
  by_cases hi : i < 64 * N
  · have e : i = 64 * (i / 64) + i % 64 := by omega
    rw [e, ← wordN_at (by omega), ← wordN_at (by omega), h _ (by omega)]
  · have h1 : ∀ X, X < 2 ^ (64 * N) → X.testBit i = false := fun X hX => Nat.testBit_lt_two_pow (Nat.lt_of_lt_of_le hX (Nat.pow_le_pow_right (by omega) (by omega)))
    rw [h1 M hM, h1 K hK]
theorem ld_word {M K k : Nat} (hne : wordN M k ^^^ wordN K k ≠ 0) (hbe : ∀ j, j < k → wordN M j = wordN K j) :
    Lib.ctz 64 (wordN M k ^^^ wordN K k) < 64 ∧ LD M K (64 * k + Lib.ctz 64 (wordN M k ^^^ wordN K k)) := by
  have hy : wordN M k ^^^ wordN K k < 2 ^ 64 := Nat.xor_lt_two_pow (wordN_lt M k) (wordN_lt K k)
  have h0 : cutW (wordN M k ^^^ wordN K k) 0 ≠ 0 := by rw [cutW_zero]; exact hne
  have := cutW_low hy h0
  rw [cutW_zero] at this
  obtain ⟨_, h1, h2, h3, _⟩ := this
  generalize Lib.ctz 64 (wordN M k ^^^ wordN K k) = j at h1 h2 h3
  refine ⟨h1, ?_, fun i hi => ?_⟩
  · rw [Nat.testBit_xor, wordN_at h1, wordN_at h1] at h2
    intro e
    rw [e] at h2
    simp at h2
  · by_cases hk : i < 64 * k
    · have e : i = 64 * (i / 64) + i % 64 := by omega
      rw [e, ← wordN_at (by omega), ← wordN_at (by omega), hbe _ (by omega)]
    · have e : i = 64 * k + (i - 64 * k) := by omega
      have h4 := h3 (i - 64 * k) (by omega) (by omega)
      rw [Nat.testBit_xor, wordN_at (by omega), wordN_at (by omega), ← e] at h4
      cases h5 : M.testBit i <;> cases h6 : K.testBit i <;> rw [h5, h6] at h4 <;> simp at h4 ⊢
theorem xor_ne {a b : Nat} (h : a ^^^ b = 0) : a = b := by
  refine Nat.eq_of_testBit_eq fun i => ?_
  have := congrArg (fun n => n.testBit i) h
  simp only [Nat.testBit_xor, Nat.zero_testBit] at this
  cases h5 : a.testBit i <;> cases h6 : b.testBit i <;> rw [h5, h6] at this <;> simp at this ⊢
theorem ld_small {M K d : Nat} (h : LD M K d) (hM : Small M) (hK : Small K) : d ≤ 4095 := by
  rcases Nat.lt_or_ge 4095 d with h1 | h1
  · exfalso
    exact h.ne (by rw [Nat.testBit_lt_two_pow (hM d h1), Nat.testBit_lt_two_pow (hK d h1)])
  · exact h1

end Go.Proofs.YtccanbjnbmihgaaDoor
/-
  Plain words on the least and the greatest member, on subsets and on common members. No program is named here.
-/
namespace Go.Proofs.YtccanbjnbmihgaaDoor

/-- The least member. -/
structure LeastS (M d : Nat) : Prop where
  bit : M.testBit d = true
  low : ∀ i, i < d → M.testBit i = false
theorem LeastS.ne {M d : Nat} (h : LeastS M d) : M ≠ 0 := fun e => by have := h.bit; rw [e] at this; simp at this
theorem LeastS.lt {M d : Nat} (h : LeastS M d) (hS : Small M) : d < 4096 := by
  rcases Nat.lt_or_ge d 4096 with h1 | h1
  · exact h1
  · exact absurd h.bit (by rw [Nat.testBit_lt_two_pow (hS d (by omega))]; simp)
theorem memM_none {M n : Nat} (h : ∀ i, i < n → M.testBit i = false) : memM M n = [] := by
  have := memM_skip (M := M) (a := 0) n fun i _ h2 => h i (by omega)
  rw [Nat.zero_add] at this
  rw [this]; rfl
theorem memM_first {M d : Nat} (h : LeastS M d) (hS : Small M) : 0 < (memM M 4096).length ∧ (memM M 4096).getD 0 0 = (d : Int) := by
  have hd := h.lt hS
  have e : memM M (d + 1) = [(d : Int)] := by rw [memM_yes h.bit, memM_none h.low]; rfl
  obtain ⟨t, ht⟩ := memM_prefix M (show d + 1 ≤ 4096 by omega)
  rw [← ht, e]
  exact ⟨by simp, by simp⟩
theorem memM_last {M : Nat} (h0 : M ≠ 0) (hS : Small M) : (memM M 4096).getD ((memM M 4096).length - 1) 0 = (Nat.log2 M : Int) := by
  have hb : M.testBit (Nat.log2 M) = true := Nat.testBit_log2 h0
  have hlt : Nat.log2 M < 4096 := by
    rcases Nat.lt_or_ge (Nat.log2 M) 4096 with h1 | h1
    · exact h1
    · exact absurd hb (by rw [Nat.testBit_lt_two_pow (hS _ (by omega))]; simp)
  have e : memM M 4096 = memM M (Nat.log2 M) ++ [(Nat.log2 M : Int)] := by
    rw [← memM_yes hb]
    have := memM_skip (M := M) (a := Nat.log2 M + 1) (4096 - (Nat.log2 M + 1)) fun i h1 _ => Nat.testBit_lt_two_pow (Nat.lt_of_lt_of_le (Nat.lt_log2_self) (Nat.pow_le_pow_right (by omega) h1))
    rw [show Nat.log2 M + 1 + (4096 - (Nat.log2 M + 1)) = 4096 by omega] at this
    exact this
  rw [e]
  simp [List.getD]
theorem memM_nil {M : Nat} (hS : Small M) : (memM M 4096).length = 0 ↔ M = 0 := by
  rw [List.length_eq_zero_iff]
  constructor
  · intro h
    exact memM_inj hS (by intro i hi; exact Nat.pow_pos (by omega)) (by rw [h, memM_zero])
  · rintro rfl; exact memM_zero _
theorem least_ex {M : Nat} (h0 : M ≠ 0) : ∃ d, LeastS M d := by
  have hex : ∃ d, M.testBit d = true := ⟨_, Nat.testBit_log2 h0⟩
  have key : ∀ n, (∃ d, d ≤ n ∧ M.testBit d = true) → ∃ d, LeastS M d := by
    intro n
    induction n with
    | zero => rintro ⟨d, hd, hb⟩; exact ⟨d, hb, fun i hi => by omega⟩
    | succ n ih =>
      rintro ⟨d, hd, hb⟩
      by_cases h : ∃ d, d ≤ n ∧ M.testBit d = true
      · exact ih h
      · exact ⟨d, hb, fun i hi => by
          cases hv : M.testBit i with
          | false => rfl
          | true => exact absurd ⟨i, by omega, hv⟩ h⟩
  obtain ⟨d, hd⟩ := hex
  exact key d ⟨d, Nat.le_refl _, hd⟩

theorem an_sub {A B : Nat} (h : anN A B = 0) : A ≤ B := by
  refine Nat.le_of_testBit fun i hi => ?_
  have := anN_bit A B i
  rw [h, hi] at this
  simpa using this
theorem canon_le {hs ks : List Nat} {A B : Nat} (h : Canon hs A) (k : Canon ks B) (hle : A ≤ B) : hs.length ≤ ks.length := by
  rcases h.last with e | e
  · omega
  · rcases Nat.lt_or_ge ks.length hs.length with hl | hl
    · exfalso
      apply e
      refine Nat.div_eq_of_lt (Nat.lt_of_le_of_lt hle (Nat.lt_of_lt_of_le k.lt (Nat.pow_le_pow_right (by omega) (by omega))))
    · exact hl
end Go.Proofs.YtccanbjnbmihgaaDoor
/-
  bits.Set.Within, Least; arbacref01.Same.
-/
namespace Go.Proofs.YtccanbjnbmihgaaDoor
open Go.RowKit
set_option linter.unusedVariables false

theorem an_zero {M K n : Nat} (h0 : anN (M % 2 ^ 64) (K % 2 ^ 64) = 0) (hM : M / 2 ^ 64 < 2 ^ (64 * n)) (h : ∀ j, j < n → anN (wordN (M / 2 ^ 64) j) (wordN (K / 2 ^ 64) j) = 0) : anN M K = 0 := by
  have h1 : anN M K % 2 ^ 64 = 0 := by rw [mod_an]; exact h0
  have h2 : anN M K / 2 ^ 64 = 0 := by
    rw [div_an]
    refine eq_words (N := n) (Nat.lt_of_le_of_lt (anN_le _ _) hM) (Nat.pow_pos (by omega)) fun j hj => ?_
    rw [wordN_an, h j hj]
    simp [wordN]
  have := Nat.div_add_mod (anN M K) (2 ^ 64)
  rw [h1, h2] at this
  omega
theorem an_some0 {M K : Nat} (h : anN (M % 2 ^ 64) (K % 2 ^ 64) ≠ 0) : anN M K ≠ 0 := fun e => h (by rw [← mod_an, e])
theorem an_some {M K j : Nat} (h : anN (wordN (M / 2 ^ 64) j) (wordN (K / 2 ^ 64) j) ≠ 0) : anN M K ≠ 0 := fun e => h (by rw [← wordN_an, ← div_an, e]; simp [wordN])

set_option maxRecDepth 100000 in
set_option maxHeartbeats 3200000 in
theorem within_at (w : World) (M K : Nat) (a1 : Option Addr) (c1 : Nat) (hs ks : List Nat) (a2 : Option Addr) (c2 : Nat) (hw : Words w (.slice a1 hs.length c1) hs) (hc : Canon hs (M / 2 ^ 64)) (hl : hs.length ≤ 63)
    (hw2 : Words w (.slice a2 ks.length c2) ks) (hc2 : Canon ks (K / 2 ^ 64)) (hl2 : ks.length ≤ 63) :
    Calls Tryd.prog 31 #[.agg #[.int .u64 (M % 2 ^ 64 : Nat), .slice a1 hs.length c1], .agg #[.int .u64 (K % 2 ^ 64 : Nat), .slice a2 ks.length c2]] w fun e w' => e = .returned (.bool (decide (anN M K = 0))) ∧ Kept (fun _ => False) w w' := by
  have hbig : ks.length < hs.length → anN M K ≠ 0 := fun h e => by
    have h1 : anN (M / 2 ^ 64) (K / 2 ^ 64) = 0 := by rw [← div_an, e]
    have := canon_le hc hc2 (an_sub h1)
    omega
  obtain ⟨n, hn⟩ : ∃ n, n = hs.length := ⟨_, rfl⟩
  obtain ⟨m, hm⟩ : ∃ n, n = ks.length := ⟨_, rfl⟩
  obtain ⟨lo1, hl1⟩ : ∃ l, l = M % 2 ^ 64 := ⟨_, rfl⟩
  obtain ⟨lo2, hl2'⟩ : ∃ l, l = K % 2 ^ 64 := ⟨_, rfl⟩
  obtain ⟨z, hz⟩ : ∃ z, z = anN lo1 lo2 := ⟨_, rfl⟩
  have hl1b : lo1 < 18446744073709551616 := by rw [hl1]; exact Nat.mod_lt _ (by decide)
  have hl2b : lo2 < 18446744073709551616 := by rw [hl2']; exact Nat.mod_lt _ (by decide)
  have hx : bits .andNot .u64 (lo1 : Int) (lo2 : Int) = (z : Int) := by rw [hz]; exact u64_anN _ _ hl1b hl2b
  have hk1 : ∀ i, i < n → ∃ gg off, a1 = some ⟨gg, off, none⟩ ∧ gg < w.heap.size ∧ w.cell? ⟨gg, off + i, none⟩ = some (.int .u64 (wordN (M / 2 ^ 64) i : Nat)) := fun i hi => by
    obtain ⟨a, c, e, _, hcell⟩ := words_form hw
    cases e
    obtain ⟨gg, off, e1, e2, e3⟩ := hcell i (by omega)
    exact ⟨gg, off, e1, e2, by rw [e3, canon_getD hc i (by omega)]⟩
  have hk2 : ∀ i, i < m → ∃ gg off, a2 = some ⟨gg, off, none⟩ ∧ gg < w.heap.size ∧ w.cell? ⟨gg, off + i, none⟩ = some (.int .u64 (wordN (K / 2 ^ 64) i : Nat)) := fun i hi => by
    obtain ⟨a, c, e, _, hcell⟩ := words_form hw2
    cases e
    obtain ⟨gg, off, e1, e2, e3⟩ := hcell i (by omega)
    exact ⟨gg, off, e1, e2, by rw [e3, canon_getD hc2 i (by omega)]⟩
  have hS0 : z ≠ 0 → anN M K ≠ 0 := fun h => an_some0 (by rw [← hl1, ← hl2', ← hz]; exact h)
  have hlt : M / 2 ^ 64 < 2 ^ (64 * n) := by rw [hn]; exact hc.lt
  have hE0 : z = 0 → (∀ j, j < n → anN (wordN (M / 2 ^ 64) j) (wordN (K / 2 ^ 64) j) = 0) → anN M K = 0 := fun h h2 => an_zero (by rw [← hl1, ← hl2', ← hz]; exact h) hlt h2
  rw [← hl1, ← hl2', ← hn, ← hm]
  rw [← hn, ← hm] at hbig
  obtain ⟨wA, hwA⟩ : ∃ wA, wA = (w.alloc (.cells #[.int .u64 lo1, .slice a1 n c1] 56)).alloc (.cells #[.int .u64 lo2, .slice a2 m c2] 56) := ⟨_, rfl⟩
  have hkA : Kept (fun _ => False) w wA := by rw [hwA]; exact (Kept.alloc _ _ _).then (Kept.alloc _ _ _)
  have hbx : ∀ W, Kept (fun _ => False) wA W → W.cell? ⟨w.heap.size, 0, none⟩ = some (.int .u64 (lo1 : Int)) ∧ W.cell? ⟨w.heap.size, 1, none⟩ = some (.slice a1 n c1) ∧ W.cell? ⟨w.heap.size + 1, 0, none⟩ = some (.int .u64 (lo2 : Int)) ∧ W.cell? ⟨w.heap.size + 1, 1, none⟩ = some (.slice a2 m c2) := fun W hk => by
    have hsz : wA.heap.size = w.heap.size + 2 := by rw [hwA]; simp
    refine ⟨(hk.cell (p := ⟨w.heap.size, 0, none⟩) (by simp; omega) (fun h => h)).trans (by rw [hwA]; go_simp), (hk.cell (p := ⟨w.heap.size, 1, none⟩) (by simp; omega) (fun h => h)).trans (by rw [hwA]; go_simp), (hk.cell (p := ⟨w.heap.size + 1, 0, none⟩) (by simp; omega) (fun h => h)).trans (by rw [hwA]; go_simp), (hk.cell (p := ⟨w.heap.size + 1, 1, none⟩) (by simp; omega) (fun h => h)).trans (by rw [hwA]; go_simp)⟩
  have HBX := Lib.hid hbx; have HKA := Lib.hid hkA; have HWA := Lib.hid hwA; have HK1 := Lib.hid hk1; have HK2 := Lib.hid hk2; have HS0 := Lib.hid hS0; have HE0 := Lib.hid hE0; have HBIG := Lib.hid hbig
  clear hbx hkA hwA hk1 hk2 hS0 hE0 hlt hz hl1 hl2' hl1b hl2b hw hw2 hc hc2 hbig
  rw [← hn] at hl
  rw [← hm] at hl2
  clear hn hm
  by_cases hz0 : z = 0
  · have hzb : ((z : Int) != 0) = false := by simp [hz0]
    by_cases hnm : m < n
    · have hnm' : (m : Int) < (n : Int) := by omega
      have HR := Lib.hid (HBIG.out hnm)
      clear hnm
      go_enter Tryd.func31, Tryd.ntmps31
      go_wp2_with fail
      rw [← HWA.out]
      go_ret
      exact ⟨by rw [decide_eq_false HR.out]; rfl, HKA.out⟩
    · have hnm' : ¬ (m : Int) < (n : Int) := by omega
      go_enter Tryd.func31, Tryd.ntmps31
      go_wp2_with fail
      rw [← HWA.out]
      go_loopw [24] (fun iv wr => ∃ k : Nat, k ≤ n ∧ iv = .int .i64 k ∧ (∀ j, j < k → anN (wordN (M / 2 ^ 64) j) (wordN (K / 2 ^ 64) j) = 0) ∧ Hid (Kept (fun _ => False) wA wr)) (fun iv _ => n - (intOf iv).toNat)
      case atStart => exact ⟨0, Nat.zero_le _, rfl, (fun j hj => by omega), Kept.refl _ _⟩
      case round =>
        obtain ⟨k, hk, rfl, hbe, hkr⟩ := hrel
        have HBE := Lib.hid hbe
        clear hbe
        obtain ⟨b0, b1, b2, b3⟩ := HBX.out wr hkr.out
        by_cases hlt : k < n
        · have hkm : k < m := by omega
          obtain ⟨g1, off1, ha1, hg1, hc1⟩ := HK1.out k hlt
          obtain ⟨g2, off2, ha2, hg2, hc2⟩ := HK2.out k hkm
          subst ha1 ha2
          have ck1 := ((HKA.out.then hkr.out).cell (p := ⟨g1, off1 + k, none⟩) hg1 (fun h => h)).trans hc1
          have ck2 := ((HKA.out.then hkr.out).cell (p := ⟨g2, off2 + k, none⟩) hg2 (fun h => h)).trans hc2
          have hand : bits .andNot .u64 (wordN (M / 2 ^ 64) k : Int) (wordN (K / 2 ^ 64) k : Int) = ((anN (wordN (M / 2 ^ 64) k) (wordN (K / 2 ^ 64) k) : Nat) : Int) := u64_anN _ _ (wordN_lt _ _) (wordN_lt _ _)
          have HSOME : Hid (anN (wordN (M / 2 ^ 64) k) (wordN (K / 2 ^ 64) k) ≠ 0 → anN M K ≠ 0) := an_some
          have HX : Hid (anN (wordN (M / 2 ^ 64) k) (wordN (K / 2 ^ 64) k) = 0 → ∀ j, j < k + 1 → anN (wordN (M / 2 ^ 64) j) (wordN (K / 2 ^ 64) j) = 0) := fun h j hj => by
            by_cases hjk : j < k
            · exact HBE.out j hjk
            · have : j = k := by omega
              subst this; exact h
          have hlt1 : (k : Int) < (n : Int) := by omega
          have hlt3 : (k : Int) < (m : Int) := by omega
          have hk0 : (0 : Int) ≤ (k : Int) := by omega
          generalize anN (wordN (M / 2 ^ 64) k) (wordN (K / 2 ^ 64) k) = x at hand HSOME HX
          generalize wordN (M / 2 ^ 64) k = y1 at hand ck1
          generalize wordN (K / 2 ^ 64) k = y2 at hand ck2
          clear hc1 hc2 HBE
          by_cases hx0 : x = 0
          · have hxb : ((x : Int) != 0) = false := by simp [hx0]
            go_wp2_with fail
            go_quiet (fail)
            go_wp2_with fail
            go_roundw
            case rel => exact ⟨k + 1, by omega, by go_num, HX.out hx0, Lib.hid (hkr.out.drewN _)⟩
            case measure => simp [intOf]; omega
          · have hxb : ((x : Int) != 0) = true := by simp; omega
            have HR := Lib.hid (HSOME.out hx0)
            go_wp2_with fail
            go_quiet (fail)
            go_wp2_with fail
            go_ret
            exact ⟨by rw [decide_eq_false HR.out]; rfl, HKA.out.then (hkr.out.drewN _)⟩
        · have hkn : k = n := by omega
          have hx1 : ¬ (k : Int) < (n : Int) := by omega
          have HR := Lib.hid (HE0.out hz0 (fun j hj => HBE.out j (by omega)))
          clear HBE hkn
          go_wp2_with fail
          go_ret
          exact ⟨by rw [decide_eq_true HR.out]; rfl, HKA.out.then hkr.out⟩
  · have hzb : ((z : Int) != 0) = true := by simp; omega
    have HR := Lib.hid (HS0.out hz0)
    go_enter Tryd.func31, Tryd.ntmps31
    go_wp2_with fail
    rw [← HWA.out]
    go_ret
    exact ⟨by rw [decide_eq_false HR.out]; rfl, HKA.out⟩
theorem within_any (w : World) (v u : Value) (M K : Nat) (hv : SetV w v M) (hu : SetV w u K) (hS : Small M) (hS2 : Small K) :
    Calls Tryd.prog 31 #[v, u] w fun e w' => e = .returned (.bool (decide (anN M K = 0))) ∧ Kept (fun _ => False) w w' := by
  obtain ⟨x, hs, rfl, hw, hc, _⟩ := hv.ex
  obtain ⟨y, ks, rfl, hw2, hc2, _⟩ := hu.ex
  obtain ⟨a1, c1, rfl⟩ := hw.form
  obtain ⟨a2, c2, rfl⟩ := hw2.form
  exact within_at w M K a1 c1 hs ks a2 c2 hw hc (hc.small hS) hw2 hc2 (hc2.small hS2)

theorem least_word {M k : Nat} (hne : wordN M k ≠ 0) (hbe : ∀ j, j < k → wordN M j = 0) : Lib.ctz 64 (wordN M k) < 64 ∧ LeastS M (64 * k + Lib.ctz 64 (wordN M k)) := by
  have h0 : ∀ j, wordN 0 j = 0 := fun j => by simp [wordN]
  have h := ld_word (M := M) (K := 0) (k := k) (by rw [h0, Nat.xor_zero]; exact hne) (fun j hj => by rw [h0, hbe j hj])
  rw [h0, Nat.xor_zero] at h
  refine ⟨h.1, ?_, fun i hi => by rw [h.2.eq i hi]; simp⟩
  have := h.2.ne
  rw [Nat.zero_testBit] at this
  simpa using this

end Go.Proofs.YtccanbjnbmihgaaDoor
/-
  arbaclaw12.MembershipEnds: the walk.
-/
namespace Go.Proofs.YtccanbjnbmihgaaDoor
open Go.RowKit
set_option linter.unusedVariables false
set_option linter.unusedSimpArgs false

theorem onM_bit (d : Int) (i : Nat) (l : List Ent) : (onM l d).testBit i = l.any (fun x => actE x.t d && decide (x.r.toNat = i)) := by
  have key : ∀ (l : List Ent) (M : Nat), (l.foldl (fun M x => if actE x.t d then M ||| 2 ^ x.r.toNat else M) M).testBit i = (M.testBit i || l.any (fun x => actE x.t d && decide (x.r.toNat = i))) := by
    intro l
    induction l with
    | nil => intro M; simp
    | cons x t ih =>
      intro M
      rw [List.foldl_cons, ih, List.any_cons]
      cases ha : actE x.t d with
      | false => simp
      | true =>
        simp only [if_true, Nat.testBit_or, Nat.testBit_two_pow, Bool.true_and, Bool.or_assoc]
  have := key l 0
  simpa [onM] using this
theorem an_zeroM {a b : Nat} (h : ∀ i, a.testBit i = true → b.testBit i = true) : anN a b = 0 := by
  have e : a &&& b = a := Nat.eq_of_testBit_eq fun i => by
    rw [Nat.testBit_and]
    cases ha : a.testBit i with
    | false => rfl
    | true => rw [h i ha]; rfl
  unfold anN
  rw [e, Nat.xor_self]
theorem on_within (l : List Ent) (d : Int) (h : 0 ≤ d) : anN (onM l (d + 1)) (onM l d) = 0 := by
  refine an_zeroM fun i hi => ?_
  rw [onM_bit] at hi ⊢
  obtain ⟨x, hx, hb⟩ := List.any_eq_true.1 hi
  refine List.any_eq_true.2 ⟨x, hx, ?_⟩
  simp only [Bool.and_eq_true] at hb ⊢
  refine ⟨?_, hb.2⟩
  have h1 := hb.1
  unfold actE at h1 ⊢
  have h2 := of_decide_eq_true h1
  exact decide_eq_true (by omega)
/-- Whether a user has a role on a day: in the set, and among the role's users. -/
theorem on_users {H : Nat → List Ent} (h : Rows2 H) (u r : Nat) (d : Int) : (onM (rowOf H (u : Int)) d).testBit r = usE H (r : Int) d u := by
  rw [onM_bit]
  have ha := rowOf_asc h (u : Int)
  have hf := rowOf_fit h (u : Int)
  unfold usE untE
  cases hl : lookE (rowOf H (u : Int)) (r : Int) with
  | none =>
    simp only [Bool.false_and]
    rw [List.any_eq_false]
    intro x hx
    have h1 := look_no.1 hl x hx
    have h2 := hf x hx
    simp; intro _; omega
  | some y =>
    obtain ⟨hy, hr⟩ := (look_iff ha).1 hl
    simp only [Bool.true_and]
    cases hb : actE y.t d with
    | true => exact List.any_eq_true.2 ⟨y, hy, by rw [hb]; simp; omega⟩
    | false =>
      rw [List.any_eq_false]
      intro x hx
      by_cases e : x.r.toNat = r
      · have h2 := hf x hx
        have : x = y := asc_uniq ha hx hy (by omega)
        rw [this, hb]; simp
      · simp [e]
theorem mem_users (H : Nat → List Ent) (r d : Int) (u : Nat) (hu : u < 257) : decide ((u : Int) ∈ usersS H r d 257) = usE H r d u := by
  unfold usersS
  cases hb : usE H r d u with
  | true => exact decide_eq_true (List.mem_map.2 ⟨u, List.mem_filter.2 ⟨List.mem_range.2 hu, hb⟩, rfl⟩)
  | false =>
    refine decide_eq_false (fun h => ?_)
    obtain ⟨k, hk, e⟩ := List.mem_map.1 h
    have e2 : k = u := by have : (k : Int) = (u : Int) := e; omega
    rw [e2] at hk
    have := (List.mem_filter.1 hk).2
    rw [hb] at this; simp at this

set_option maxRecDepth 100000 in
set_option maxHeartbeats 1600000 in
theorem indexi_any (w : World) (v : Value) (xs : List Int) (x : Int) (h : Ints w v xs) :
    Calls Tryd.prog 66 #[v, .int .i64 x] w fun e w' => ∃ i : Int, e = .returned (.int .i64 i) ∧ (0 ≤ i ↔ x ∈ xs) ∧ w = w' := by
  obtain ⟨a, c, rfl, hm, hx⟩ := ints_form h
  have HX := Lib.hid hx
  unfold maxLen at hm
  clear hx h
  go_enter Tryd.func66, Tryd.ntmps66
  go_wp2_with fail
  go_loop [8] (fun iv => ∃ k : Nat, k ≤ xs.length ∧ iv = .int .i64 (k : Int) ∧ Hid (∀ j, j < k → xs.getD j 0 ≠ x)) (fun iv => xs.length - (intOf iv).toNat)
  case atStart => exact ⟨0, Nat.zero_le _, rfl, Lib.hid (fun j hj => absurd hj (by omega))⟩
  case round =>
    obtain ⟨k, hk, rfl, hlo⟩ := hrel
    by_cases hlt : k < xs.length
    · have l1 : (k : Int) < (xs.length : Int) := by omega
      have l0 : (0 : Int) ≤ (k : Int) := by omega
      obtain ⟨g, off, rfl, hg, hc⟩ := HX.out k hlt
      by_cases e : xs.getD k 0 = x
      · have hmem : x ∈ xs := by rw [← e]; simp [List.getD, hlt]
        have HMem := Lib.hid hmem
        rw [e] at hc
        clear e hmem hg
        go_wp2_with fail
        go_ret
        exact ⟨_, rfl, ⟨fun _ => HMem.out, fun _ => by omega⟩, rfl⟩
      · have hI : Hid (∀ j, j < k + 1 → xs.getD j 0 ≠ x) := Lib.hid fun j hj => by
          rcases Nat.lt_or_ge j k with h | h
          · exact hlo.out j h
          · obtain rfl : j = k := by omega
            exact e
        generalize xs.getD k 0 = y at hc e
        have e2 : ¬ x = y := fun h => e h.symm
        clear hg hlo
        go_wp2_with fail
        go_round
        case rel => exact ⟨k + 1, by omega, by go_num, hI⟩
        case measure => simp [intOf]; omega
    · obtain rfl : k = xs.length := by omega
      have hn : ¬ x ∈ xs := fun h => by
        obtain ⟨j, hj, rfl⟩ := List.getElem_of_mem h
        exact hlo.out j hj (by simp [List.getD, hj])
      have HNn := Lib.hid hn
      clear hn
      go_wp2_with fail
      go_ret
      exact ⟨_, rfl, ⟨fun h => by omega, fun h => absurd h HNn.out⟩, rfl⟩
set_option maxRecDepth 100000 in
set_option maxHeartbeats 1600000 in
theorem containsi_any (w : World) (v : Value) (xs : List Int) (x : Int) (h : Ints w v xs) :
    Calls Tryd.prog 33 #[v, .int .i64 x] w fun e w' => e = .returned (.bool (decide (x ∈ xs))) ∧ w = w' := by
  have HI := Lib.hid (indexi_any w v xs x h)
  obtain ⟨qb, hqb⟩ : ∃ qb, qb = decide (x ∈ xs) := ⟨_, rfl⟩
  rw [← hqb]
  have HQb := Lib.hid hqb
  clear hqb
  obtain ⟨a, c, hf⟩ := h.form
  subst hf
  go_enter Tryd.func33, Tryd.ntmps33
  go_wp2_with fail
  refine HI.out.mono ?_
  rintro e w1 ⟨i, rfl, hi, rfl⟩
  by_cases h0 : 0 ≤ i
  · obtain rfl : qb = true := HQb.out.trans (decide_eq_true (hi.1 h0))
    clear hi
    go_wp2_with fail
    go_ret
    exact ⟨rfl, rfl⟩
  · obtain rfl : qb = false := HQb.out.trans (decide_eq_false (fun h => h0 (hi.2 h)))
    clear hi
    go_wp2_with fail
    go_ret
    exact ⟨by show Ending.returned (.bool (decide (0 ≤ i))) = _; rw [decide_eq_false (show ¬ 0 ≤ i by omega)], rfl⟩

set_option maxRecDepth 100000 in
set_option maxHeartbeats 6400000 in
theorem ends_law (w : World) (v : Value) (rs : List Raw3) (m : Nat) (h : Raws w v rs) (hL : Lb2 w) (hm : m < 256) :
    Calls Tryd.prog 5 #[v, .int .u8 (m : Int)] w fun e w' => e = .returned (.bool true) ∧ Kept (fun _ => False) w w' := by
  have HE := Lib.hid h; have HL := Lib.hid hL
  obtain ⟨va, vc, hform, _, _⟩ := h.form
  obtain ⟨N, hN⟩ : ∃ N, N = rs.length := ⟨_, rfl⟩
  rw [← hN] at hform
  subst hform
  obtain ⟨d, hd⟩ : ∃ d, d = m % 25 := ⟨_, rfl⟩
  have d25 : d < 25 := by omega
  obtain ⟨a1, a2, a3⟩ : (m : Int).tmod 25 = (d : Int) ∧ (m : Int) % 25 = (d : Int) ∧ IntKind.u8.wrap (d : Int) = (d : Int) := ⟨by rw [Int.tmod_eq_emod_of_nonneg (by omega)]; omega, by omega, IntWalk.u8_in _ (by omega)⟩
  clear h hL hN hd
  go_enter Tryd.func5, Tryd.ntmps5
  go_wp2_with fail
  refine (awake12_any w HL.out).mono ?_
  rintro e w1 ⟨rfl, k1⟩
  have K1 := Lib.hid k1; clear k1
  go_wp2_with fail
  refine (lmake_any w1 _ rs (HE.out.kept K1.out)).mono ?_
  rintro e w2 ⟨bv, tl, rfl, bb2, e2, k2⟩
  have K2 := Lib.hid (K1.out.then k2)
  obtain ⟨hRw, hAl⟩ := mkH_rows (rs.take 16)
  generalize mkH (rs.take 16) = H at bb2 hRw
  have B2 := Lib.hid bb2; have HRw := Lib.hid hRw
  obtain ⟨pb, _, rfl, -, -⟩ := bb2
  clear k2 K1 hAl e2 hRw
  have hz1 : IntKind.i64.wrap ((d : Int) + 1) = (d : Int) + 1 := by rw [IntKind.wrap_i64]; omega
  go_wp2_with fail
  go_loopw [8] (fun uv wr => ∃ k : Nat, 1 ≤ k ∧ k ≤ 6 ∧ uv = .int .i64 (k : Int) ∧ Hid (Kept (fun _ => False) w2 wr)) (fun uv _ => 6 - (intOf uv).toNat)
  case atStart => exact ⟨1, by omega, by omega, rfl, Lib.hid (Kept.refl _ _)⟩
  case round =>
    obtain ⟨k, k1, k6, rfl, hkw⟩ := hrel
    by_cases hlt : k ≤ 5
    · have l1 : (k : Int) ≤ 5 := by omega
      have B3 := Lib.hid (B2.out.kept hkw.out)
      have hSm := onM_small (rowOf H (k : Int)) (d : Int) (rowOf_fit HRw.out _)
      have hSm1 := onM_small (rowOf H (k : Int)) ((d : Int) + 1) (rowOf_fit HRw.out _)
      have HWi := Lib.hid (on_within (rowOf H (k : Int)) (d : Int) (by omega))
      have HOU : Hid (∀ r : Nat, (onM (rowOf H (k : Int)) (d : Int)).testBit r = usE H (r : Int) (d : Int) k) := Lib.hid fun r => on_users HRw.out k r (d : Int)
      go_wp2_with fail
      refine (on_any wr _ 16 H (k : Int) (d : Int) B3.out (by omega)).mono ?_
      rintro e w5 ⟨s5, rfl, hs5, _, j5⟩
      have S5 := Lib.hid hs5
      replace B3 := Lib.hid (B3.out.kept j5)
      have K5 := Lib.hid (hkw.out.then j5)
      obtain ⟨lo, sa, sn, sc, rfl⟩ := hs5.form2
      clear hs5 j5
      have ja : Kept (fun _ => False) w5 (w5.alloc (.cells #[.int .u64 (lo : Int), .slice sa sn sc] 56)) := Kept.alloc _ _ _
      have B6 := Lib.hid (B3.out.kept ja); have S6 := Lib.hid (S5.out.keptB ja (fun _ _ h => h)); have K6 := Lib.hid (K5.out.then ja)
      have x0 : (w5.alloc (.cells #[.int .u64 (lo : Int), .slice sa sn sc] 56)).cell? ⟨w5.heap.size, 0, none⟩ = some (.int .u64 (lo : Int)) := by go_simp
      have x1 : (w5.alloc (.cells #[.int .u64 (lo : Int), .slice sa sn sc] 56)).cell? ⟨w5.heap.size, 1, none⟩ = some (.slice sa sn sc) := by go_simp
      clear ja B3 S5 K5
      go_wp2_with fail
      generalize w5.alloc (.cells #[.int .u64 (lo : Int), .slice sa sn sc] 56) = w6 at *
      generalize w5.heap.size = X at *
      have HC : Hid (∀ W, Kept (fun _ => False) w6 W → W.cell? ⟨X, 0, none⟩ = some (.int .u64 (lo : Int)) ∧ W.cell? ⟨X, 1, none⟩ = some (.slice sa sn sc)) := Lib.hid fun W kw => ⟨(kw.cell (World.block_lt_of_cell? w6 _ x0) (fun h => h)).trans x0, (kw.cell (World.block_lt_of_cell? w6 _ x1) (fun h => h)).trans x1⟩
      have HOn : Hid (∀ W, Kept (fun _ => False) w6 W → Calls Tryd.prog 26 #[.pointer (some ⟨pb, 0, none⟩), .int .i64 (k : Int), .int .i64 ((d : Int) + 1)] W fun e w' => ∃ v', e = .returned v' ∧ SetV w' v' (onM (rowOf H (k : Int)) ((d : Int) + 1)) ∧ Kept (fun _ => False) W w') := Lib.hid fun W kw => by
        refine (on_any W _ 16 H (k : Int) ((d : Int) + 1) (B6.out.kept kw) (by omega)).mono ?_
        rintro e w' ⟨v', h1, h2, _, h3⟩
        exact ⟨v', h1, h2, h3⟩
      clear x0 x1
      go_region_held3 (fun w' => w'.cell? ⟨X, 0, none⟩ = some (.int .u64 (lo : Int)) ∧ w'.cell? ⟨X, 1, none⟩ = some (.slice sa sn sc))
        (first | exact HC.out _ K8.out | exact HC.out _ K7.out | exact HC.out _ (Kept.refl _ _) | exact HC.out _ (Kept.refl _ _).drew)
        ((first | (go_at_call 31; with_reducible refine (within_any _ _ _ _ _ S7.out (S6.out.keptB K7.out (fun _ _ h => h)) hSm1 hSm).mono ?_; rw [HWi.out, decide_eq_true rfl]; rintro e w8 ⟨rfl, j8⟩; have K8 := Lib.hid (K7.out.then j8); clear j8) | (go_at_call 26; with_reducible refine (HOn.out _ (by first | exact Kept.refl _ _ | exact (Kept.refl _ _).drew)).mono ?_; rintro e w7 ⟨s7, rfl, hs7, j7⟩; have S7 := Lib.hid hs7; have K7 := Lib.hid (Kept.then (show Kept (fun _ => False) w6 _ from (by first | exact Kept.refl _ _ | exact (Kept.refl _ _).drew)) j7); obtain ⟨lo7, sa7, sn7, sc7, rfl⟩ := hs7.form2; clear hs7 j7)))
      have KK := Lib.hid (K6.out.then K8.out)
      obtain ⟨w9, hw9⟩ : ∃ w9 : World, w9 = w8 := ⟨_, rfl⟩
      have B9 := Lib.hid (B6.out.kept K8.out); have S9 := Lib.hid (S6.out.keptB K8.out (fun _ _ h => h))
      have HC9 : Hid (∀ W, Kept (fun _ => False) w8 W → W.cell? ⟨X, 0, none⟩ = some (.int .u64 (lo : Int)) ∧ W.cell? ⟨X, 1, none⟩ = some (.slice sa sn sc)) := Lib.hid fun W kw => HC.out W (K8.out.then kw)
      clear HC HOn B6 S6 K6 K7 K8 S7 HWi hw9
      go_wp2_with fail
      go_loopw [10] (fun rv wr => ∃ r : Nat, 1 ≤ r ∧ r ≤ 9 ∧ rv = .int .i64 (r : Int) ∧ Hid (Kept (fun _ => False) w8 wr)) (fun rv _ => 9 - (intOf rv).toNat)
      case atStart => exact ⟨1, by omega, by omega, rfl, Lib.hid (Kept.refl _ _)⟩
      case round =>
        obtain ⟨r, r1, r9, rfl, hkr⟩ := hrel
        by_cases hlt2 : r ≤ 8
        · have l2 : (r : Int) ≤ 8 := by omega
          have hrw : IntKind.i64.wrap ((r : Int) + 1) = (r : Int) + 1 := by rw [IntKind.wrap_i64]; omega
          have hou := HOU.out r
          have hmu := mem_users H (r : Int) (d : Int) k (by omega)
          obtain ⟨tt, htt⟩ : ∃ tt, tt = (untE (rowOf H (k : Int)) (r : Int)).1 := ⟨_, rfl⟩
          obtain ⟨fb, hfb⟩ : ∃ fb, fb = (untE (rowOf H (k : Int)) (r : Int)).2 := ⟨_, rfl⟩
          have hu : usE H (r : Int) (d : Int) k = (fb && actE tt (d : Int)) := by unfold usE; rw [← htt, ← hfb]
          have hun := until_any wr _ 16 H (k : Int) (r : Int) (B9.out.kept hkr.out) (by omega)
          rw [← htt, ← hfb] at hun
          have HUn := Lib.hid hun
          have hact : actE tt (d : Int) = decide ((d : Int) ≤ tt) := by unfold actE; exact decide_eq_decide.2 ⟨fun h => h.2, fun h => ⟨by omega, h⟩⟩
          rw [hact] at hu
          have HHs : Hid (∀ W, Kept (fun _ => False) w8 W → Calls Tryd.prog 32 #[.agg #[.int .u64 (lo : Int), .slice sa sn sc], .int .i64 (r : Int)] W fun e w' => e = .returned (.bool (fb && decide ((d : Int) ≤ tt))) ∧ Kept (fun _ => False) W w') := Lib.hid fun W kw => by
            have := has_any W _ _ r (S9.out.keptB kw (fun _ _ h => h)) (by omega)
            rwa [hou, hu] at this
          have HUs : Hid (∀ W, Kept (fun _ => False) w8 W → Calls Tryd.prog 29 #[.pointer (some ⟨pb, 0, none⟩), .int .i64 (r : Int), .int .i64 (d : Int)] W fun e w' => ∃ v', e = .returned v' ∧ Ints w' v' (usersS H (r : Int) (d : Int) 257) ∧ Kept (fun _ => False) W w') := Lib.hid fun W kw => by
            refine (users_any W _ 16 H (r : Int) (d : Int) (B9.out.kept kw) (by omega)).mono ?_
            rintro e w' ⟨v', h1, h2, h3⟩
            exact ⟨v', h1, h2.ints, h3⟩
          have HCt : Hid (∀ W v, Ints W v (usersS H (r : Int) (d : Int) 257) → Calls Tryd.prog 33 #[v, .int .i64 (k : Int)] W fun e w' => e = .returned (.bool (fb && decide ((d : Int) ≤ tt))) ∧ W = w') := Lib.hid fun W v h => by
            have := containsi_any W v _ (k : Int) h
            rwa [hmu, hu] at this
          clear hou hmu htt hfb hu hun hact
          go_wp2_with fail
          refine HUn.out.mono ?_
          rintro e wa ⟨rfl, ja⟩
          have KA := Lib.hid (hkr.out.then ja)
          obtain ⟨c0, c1⟩ := HC9.out _ KA.out
          clear ja HUn
          go_wp2_with fail
          refine (HHs.out wa KA.out).mono ?_
          rintro e wb ⟨rfl, jb⟩
          have KB := Lib.hid (KA.out.then jb)
          clear jb c0 c1
          obtain ⟨c0, c1⟩ := HC9.out _ KB.out
          go_wp2_with fail
          refine (HUs.out wb KB.out).mono ?_
          rintro e wc ⟨vc, rfl, ic, jc⟩
          have KC := Lib.hid (KB.out.then jc); have IC := Lib.hid ic
          clear jc ic c0 c1
          obtain ⟨c0, c1⟩ := HC9.out _ KC.out
          go_wp2_with fail
          refine (HCt.out wc vc IC.out).mono ?_
          rintro e wd ⟨rfl, rfl⟩
          have HHc := HHs.out wc KC.out
          have HHd := Lib.hid HHc
          clear HHs HUs HCt IC HHc
          by_cases hdt : (d : Int) ≤ tt
          · rw [decide_eq_true hdt] at *
            cases fb
            all_goals
              go_wp2_with (go_at_call 32; refine HHd.out.mono ?_; rintro e we ⟨rfl, je⟩
                           have KE := Lib.hid (KC.out.then je)
                           clear je)
              go_roundw
              case rel => first | exact ⟨r + 1, by omega, by omega, by go_num, KE⟩ | ((repeat apply Exists.intro); exact ⟨⟨r + 1, by omega, by omega, by go_num, KE⟩, rfl⟩)
              case measure => simp [intOf]; omega
          · rw [decide_eq_false hdt] at *
            cases fb
            all_goals
              go_wp2_with (go_at_call 32; refine HHd.out.mono ?_; rintro e we ⟨rfl, je⟩
                           have KE := Lib.hid (KC.out.then je)
                           clear je)
              go_roundw
              case rel => first | exact ⟨r + 1, by omega, by omega, by go_num, KE⟩ | ((repeat apply Exists.intro); exact ⟨⟨r + 1, by omega, by omega, by go_num, KE⟩, rfl⟩)
              case measure => simp [intOf]; omega
        · obtain rfl : r = 9 := by omega
          have KF := Lib.hid (KK.out.then hkr.out)
          have hkw1 : IntKind.i64.wrap ((k : Int) + 1) = (k : Int) + 1 := by rw [IntKind.wrap_i64]; omega
          go_wp2_with fail
          go_roundw
          case rel => first | exact ⟨k + 1, by omega, by omega, by go_num, KF⟩ | ((repeat apply Exists.intro); exact ⟨⟨k + 1, by omega, by omega, by go_num, KF⟩, rfl⟩)
          case measure => simp [intOf]; omega
    · obtain rfl : k = 6 := by omega
      go_wp2_with fail
      go_ret
      exact ⟨rfl, K2.out.then hkw.out⟩
end Go.Proofs.YtccanbjnbmihgaaDoor
/-
  Plain words of the days' answers: the program's and the specification's are the same.
-/
namespace Go.Proofs.YtccanbjnbmihgaaDoor
set_option linter.unusedVariables false
set_option linter.unusedSimpArgs false

theorem sorted_extM : ∀ (a b : List Int), a.Pairwise (· < ·) → b.Pairwise (· < ·) → (∀ x, x ∈ a ↔ x ∈ b) → a = b
  | [], [], _, _, _ => rfl
  | [], y :: t, _, _, h => by have := (h y).2 (by simp); simp at this
  | x :: s, [], _, _, h => by have := (h x).1 (by simp); simp at this
  | x :: s, y :: t, ha, hb, h => by
    rw [List.pairwise_cons] at ha hb
    have e : x = y := by
      have h1 := (h x).1 (by simp)
      have h2 := (h y).2 (by simp)
      rcases List.mem_cons.1 h1 with h1 | h1
      · exact h1
      · rcases List.mem_cons.1 h2 with h2 | h2
        · exact h2.symm
        · have := hb.1 x h1; have := ha.1 y h2; omega
    subst e
    rw [sorted_extM s t ha.2 hb.2 (fun z => by
      constructor
      · intro hz
        rcases List.mem_cons.1 ((h z).1 (by simp [hz])) with e | h1
        · have := ha.1 z hz; omega
        · exact h1
      · intro hz
        rcases List.mem_cons.1 ((h z).2 (by simp [hz])) with e | h1
        · have := hb.1 z hz; omega
        · exact h1)]

theorem row_mem {H : Nat → List Ent} (h : Rows2 H) {u : Int} {x : Ent} : x ∈ rowOf H u ↔ x ∈ allE H ∧ x.u = u := by
  constructor
  · intro hx
    unfold rowOf at hx
    split at hx
    · have := h.user u.toNat (by omega) x hx
      exact ⟨(allE_mem x).2 ⟨u.toNat, by omega, hx⟩, by omega⟩
    · simp at hx
  · rintro ⟨hx, rfl⟩
    obtain ⟨k, hk, hx⟩ := (allE_mem x).1 hx
    have hu := h.user k hk x hx
    have hk1 : 1 ≤ k := by
      rcases Nat.eq_zero_or_pos k with h0 | h0
      · subst h0; rw [h.none] at hx; simp at hx
      · exact h0
    rw [hu, rowOf_nat H k hk1 (by omega)]
    exact hx
theorem actR_fit {t d : Int} (h : t ≤ 30000) : actR t d = actE t d := by
  unfold actR actE
  exact decide_eq_decide.2 ⟨fun h => ⟨h.1, h.2.2⟩, fun h => ⟨h.1, by omega, h.2⟩⟩
theorem unt_ref {H : Nat → List Ent} (h : Rows2 H) (u r : Int) : (0 ≤ runt (allE H) u r ∧ untE (rowOf H u) r = (runt (allE H) u r, true)) ∨ (runt (allE H) u r = -1 ∧ untE (rowOf H u) r = (0, false)) := by
  have ha := rowOf_asc h u
  cases hl : lookE (rowOf H u) r with
  | some y =>
    left
    obtain ⟨hy, hr⟩ := (look_iff ha).1 hl
    have hy2 := (row_mem h).1 hy
    have hf : (allE H).find? (fun x => decide (x.u = u ∧ x.r = r)) = some y := by
      cases hq : (allE H).find? (fun x => decide (x.u = u ∧ x.r = r)) with
      | none =>
        have := List.find?_eq_none.1 hq y hy2.1
        simp [hy2.2, hr] at this
      | some z =>
        have hz := List.mem_of_find?_eq_some hq
        have hz2 : z.u = u ∧ z.r = r := by simpa using List.find?_some hq
        rw [asc_uniq ha ((row_mem h).2 ⟨hz, hz2.1⟩) hy (by omega)]
    have ht := rowOf_fit h u y hy
    unfold runt untE
    rw [hf, hl]
    exact ⟨by simp only; omega, rfl⟩
  | none =>
    right
    have hf : (allE H).find? (fun x => decide (x.u = u ∧ x.r = r)) = none := by
      rw [List.find?_eq_none]
      intro x hx hc
      have hc : x.u = u ∧ x.r = r := by simpa using hc
      exact look_no.1 hl x ((row_mem h).2 ⟨hx, hc.1⟩) hc.2
    unfold runt untE
    rw [hf, hl]
    exact ⟨rfl, rfl⟩
theorem on_ref {H : Nat → List Ent} (h : Rows2 H) (u d : Int) : memM (onM (rowOf H u) d) 4096 = ((allE H).filter (onP u d)).map (·.r) := by
  refine sorted_extM _ _ ?_ ?_ (fun z => ?_)
  · unfold memM
    rw [List.pairwise_map]
    exact (List.Pairwise.filter _ List.pairwise_lt_range).imp (fun h => by omega)
  · rw [List.pairwise_map]
    refine List.Pairwise.imp_of_mem (fun {a b} ha hb hab => ?_) ((allE_sorted h).filter (onP u d))
    have h1 := (List.mem_filter.1 ha).2
    have h2 := (List.mem_filter.1 hb).2
    unfold onP at h1 h2
    have h1 : a.u = u ∧ actR a.t d = true := by simpa using h1
    have h2 : b.u = u ∧ actR b.t d = true := by simpa using h2
    unfold bef at hab
    have := of_decide_eq_true hab
    omega
  · unfold memM
    rw [List.mem_map, List.mem_map]
    constructor
    · rintro ⟨i, hi, rfl⟩
      have hb := (List.mem_filter.1 hi).2
      rw [onM_bit] at hb
      obtain ⟨x, hx, hxb⟩ := List.any_eq_true.1 hb
      have hxb : actE x.t d = true ∧ x.r.toNat = i := by simpa using hxb
      have hf := rowOf_fit h u x hx
      obtain ⟨hx1, hx2⟩ := (row_mem h).1 hx
      exact ⟨x, List.mem_filter.2 ⟨hx1, by unfold onP; rw [actR_fit (by omega), hxb.1, decide_eq_true hx2]; rfl⟩, by omega⟩
    · rintro ⟨x, hx, rfl⟩
      obtain ⟨hx1, hx2⟩ := List.mem_filter.1 hx
      unfold onP at hx2
      have hx2 : x.u = u ∧ actR x.t d = true := by simpa using hx2
      have hrow := (row_mem h).2 ⟨hx1, hx2.1⟩
      have hf := rowOf_fit h u x hrow
      refine ⟨x.r.toNat, List.mem_filter.2 ⟨List.mem_range.2 (by omega), ?_⟩, by omega⟩
      rw [onM_bit]
      exact List.any_eq_true.2 ⟨x, hrow, by rw [← actR_fit (by omega), hx2.2]; simp⟩
theorem users_ref {H : Nat → List Ent} (h : Rows2 H) (r d : Int) : usersS H r d 257 = ((allE H).filter (usP r d)).map (·.u) := by
  refine sorted_extM _ _ ?_ ?_ (fun z => ?_)
  · unfold usersS
    rw [List.pairwise_map]
    exact (List.Pairwise.filter _ List.pairwise_lt_range).imp (fun h => by show ((_ : Nat) : Int) < ((_ : Nat) : Int); omega)
  · rw [List.pairwise_map]
    refine List.Pairwise.imp_of_mem (fun {a b} ha hb hab => ?_) ((allE_sorted h).filter (usP r d))
    have h1 := (List.mem_filter.1 ha).2
    have h2 := (List.mem_filter.1 hb).2
    unfold usP at h1 h2
    have h1 : a.r = r ∧ actR a.t d = true := by simpa using h1
    have h2 : b.r = r ∧ actR b.t d = true := by simpa using h2
    unfold bef at hab
    have := of_decide_eq_true hab
    omega
  · unfold usersS
    rw [List.mem_map, List.mem_map]
    constructor
    · rintro ⟨k, hk, rfl⟩
      have hb := (List.mem_filter.1 hk).2
      unfold usE at hb
      cases hl : lookE (rowOf H (k : Int)) r with
      | none => unfold untE at hb; rw [hl] at hb; simp at hb
      | some y =>
        obtain ⟨hy, hr⟩ := (look_iff (rowOf_asc h _)).1 hl
        obtain ⟨hy1, hy2⟩ := (row_mem h).1 hy
        have hf := rowOf_fit h _ y hy
        have hb2 : actE y.t d = true := by unfold untE at hb; rw [hl] at hb; simpa using hb
        exact ⟨y, List.mem_filter.2 ⟨hy1, by unfold usP; rw [actR_fit (by omega), hb2, decide_eq_true hr]; rfl⟩, hy2⟩
    · rintro ⟨x, hx, rfl⟩
      obtain ⟨hx1, hx2⟩ := List.mem_filter.1 hx
      unfold usP at hx2
      have hx2 : x.r = r ∧ actR x.t d = true := by simpa using hx2
      have hrow : x ∈ rowOf H x.u := (row_mem h).2 ⟨hx1, rfl⟩
      have hf := rowOf_fit h _ x hrow
      have hfe := fitE h x hx1
      have hl := (look_iff (rowOf_asc h x.u)).2 ⟨hrow, hx2.1⟩
      refine ⟨x.u.toNat, List.mem_filter.2 ⟨List.mem_range.2 (by omega), ?_⟩, by show ((x.u.toNat : Nat) : Int) = x.u; omega⟩
      unfold usE untE
      rw [show ((x.u.toNat : Nat) : Int) = x.u by omega, hl]
      simp only [Bool.true_and]
      rw [← actR_fit (by omega)]
      exact hx2.2
end Go.Proofs.YtccanbjnbmihgaaDoor
/-
  arbaclaw12.MembershipDays: the walk.
-/
namespace Go.Proofs.YtccanbjnbmihgaaDoor
open Go.RowKit
set_option linter.unusedVariables false
set_option linter.unusedSimpArgs false

set_option maxRecDepth 100000 in
set_option maxHeartbeats 6400000 in
theorem days_law (w : World) (v : Value) (rs : List Raw3) (pa pb day : Int) (h : Raws w v rs) (hL : Lb2 w) :
    Calls Tryd.prog 4 #[v, .agg #[.int .i64 pa, .int .i64 pb], .int .i64 day] w fun e w' => e = .returned (.bool true) ∧ Kept (fun _ => False) w w' := by
  have HE := Lib.hid h; have HL := Lib.hid hL
  obtain ⟨va, vc, hform, _, _⟩ := h.form
  obtain ⟨N, hN⟩ : ∃ N, N = rs.length := ⟨_, rfl⟩
  rw [← hN] at hform
  subst hform
  have HKA : Hid (Kept (fun _ => False) w (w.alloc (.cells #[.int .i64 pa, .int .i64 pb] 45))) := Lib.hid (Kept.alloc _ _ _)
  have x0 : (w.alloc (.cells #[.int .i64 pa, .int .i64 pb] 45)).cell? ⟨w.heap.size, 0, none⟩ = some (.int .i64 pa) := by go_simp
  have x1 : (w.alloc (.cells #[.int .i64 pa, .int .i64 pb] 45)).cell? ⟨w.heap.size, 1, none⟩ = some (.int .i64 pb) := by go_simp
  have HX := Lib.hid (And.intro x0 x1)
  clear h hL hN x0 x1
  go_enter Tryd.func4, Tryd.ntmps4
  go_wp2_with fail
  generalize w.alloc (.cells #[.int .i64 pa, .int .i64 pb] 45) = wA at *
  obtain ⟨P, hP⟩ : ∃ P, P = w.heap.size := ⟨_, rfl⟩
  rw [← hP] at HX ⊢
  clear hP
  refine (awake12_any wA (HL.out.kept HKA.out)).mono ?_
  rintro e w1 ⟨rfl, k1⟩
  have K1 := Lib.hid k1; clear k1
  go_wp2_with fail
  refine (lmake_any w1 _ rs (HE.out.kept (HKA.out.then K1.out))).mono ?_
  rintro e w2 ⟨bv, tl, rfl, bb2, e2, k2⟩
  have K2 := Lib.hid (K1.out.then k2)
  obtain ⟨hRw, hAl⟩ := mkH_rows (rs.take 16)
  have hLen : (mkE (rs.take 16)).length ≤ 16 := Nat.le_trans (mkE_len _) (by rw [List.length_take]; omega)
  rw [← hAl] at e2 hLen
  generalize mkH (rs.take 16) = H at bb2 e2 hRw hLen
  have B2 := Lib.hid bb2; have E2 := Lib.hid e2; have HRw := Lib.hid hRw; have HLen := Lib.hid hLen
  obtain ⟨pbk, _, rfl, -, -⟩ := bb2
  obtain ⟨ta, tc, rfl, _, _⟩ := e2.form
  generalize (allE H).length = T at E2
  have hcell : ∀ W, Kept (fun _ => False) w2 W → W.cell? ⟨P, 0, none⟩ = some (.int .i64 pa) ∧ W.cell? ⟨P, 1, none⟩ = some (.int .i64 pb) := fun W kw =>
    ⟨((K2.out.then kw).cell (World.block_lt_of_cell? wA _ HX.out.1) (fun h => h)).trans HX.out.1, ((K2.out.then kw).cell (World.block_lt_of_cell? wA _ HX.out.2) (fun h => h)).trans HX.out.2⟩
  have HC := Lib.hid hcell
  have HLb := Lib.hid (HL.out.kept (HKA.out.then K2.out))
  have HKW := Lib.hid (HKA.out.then K2.out)
  clear k2 K1 hAl e2 hRw hcell hLen HX K2
  obtain ⟨x0, x1⟩ := HC.out _ (Kept.refl _ _)
  go_wp2_with fail
  have hun := until_any w2 _ 16 H pa pb B2.out (by omega)
  have hur := unt_ref HRw.out pa pb
  obtain ⟨tt, htt⟩ : ∃ tt, tt = (untE (rowOf H pa) pb).1 := ⟨_, rfl⟩
  obtain ⟨fb, hfb⟩ : ∃ fb, fb = (untE (rowOf H pa) pb).2 := ⟨_, rfl⟩
  obtain ⟨wt, hwt⟩ : ∃ wt, wt = runt (allE H) pa pb := ⟨_, rfl⟩
  rw [← htt, ← hfb] at hun
  have hcs : (0 ≤ wt ∧ tt = wt ∧ fb = true) ∨ (wt = -1 ∧ tt = 0 ∧ fb = false) := by
    rcases hur with ⟨h1, h2⟩ | ⟨h1, h2⟩
    · exact Or.inl ⟨by rw [hwt]; exact h1, by rw [htt, h2, hwt], by rw [hfb, h2]⟩
    · exact Or.inr ⟨by rw [hwt]; exact h1, by rw [htt, h2], by rw [hfb, h2]⟩
  have HCs := Lib.hid hcs
  have HWt := Lib.hid hwt
  have HUn := Lib.hid hun
  clear hun hur htt hfb hwt hcs
  refine HUn.out.mono ?_
  rintro e w3 ⟨rfl, k3⟩
  have K3 := Lib.hid k3
  clear k3 x0 x1
  obtain ⟨x0, x1⟩ := HC.out _ K3.out
  go_wp2_with fail
  have hrt := runtil_any w3 _ (allE H) pa pb (E2.out.kept K3.out (fun _ _ h => h))
  rw [← HWt.out] at hrt
  have HRt := Lib.hid hrt
  clear hrt
  refine HRt.out.mono ?_
  rintro e w4 ⟨rfl, k4⟩
  have K4 := Lib.hid (K3.out.then k4)
  clear k4 x0 x1 HRt HUn
  have hor := on_ref HRw.out pa day
  have hus := users_ref HRw.out pb day
  have hsm := onM_small (rowOf H pa) day (rowOf_fit HRw.out pa)
  have HSm := Lib.hid hsm
  have HOn : Hid (∀ W, Kept (fun _ => False) w4 W → Calls Tryd.prog 26 #[.pointer (some ⟨pbk, 0, none⟩), .int .i64 pa, .int .i64 day] W fun e w' => ∃ v', e = .returned v' ∧ SetV w' v' (onM (rowOf H pa) day) ∧ Kept (fun _ => False) W w') := Lib.hid fun W kw => by
    refine (on_any W _ 16 H pa day (B2.out.kept (K4.out.then kw)) (by omega)).mono ?_
    rintro e w' ⟨v', h1, h2, _, h3⟩
    exact ⟨v', h1, h2, h3⟩
  have HLs : Hid (∀ W v, Kept (fun _ => False) w4 W → SetV W v (onM (rowOf H pa) day) → Calls Tryd.prog 27 #[v] W fun e w' => ∃ u, e = .returned u ∧ Ints w' u (((allE H).filter (onP pa day)).map (·.r)) ∧ Kept (fun _ => False) W w') := Lib.hid fun W v kw hv => by
    refine (list_any W v _ hv HSm.out (HLb.out.kept (K4.out.then kw)).tz).mono ?_
    rintro e w' ⟨u, h1, h2, _, h3⟩
    exact ⟨u, h1, by rw [← hor]; exact Ints.ofOwns h2, h3⟩
  have HRo : Hid (∀ W, Kept (fun _ => False) w4 W → Calls Tryd.prog 28 #[.slice ta T tc, .int .i64 pa, .int .i64 day] W fun e w' => ∃ v', e = .returned v' ∧ Ints w' v' (((allE H).filter (onP pa day)).map (·.r)) ∧ Kept (fun _ => False) W w') := Lib.hid fun W kw => by
    refine (ron_any W _ (allE H) pa day (E2.out.kept (K4.out.then kw) (fun _ _ h => h)) (by have := HLen.out; omega)).mono ?_
    rintro e w' ⟨v', h1, h2, h3⟩
    exact ⟨v', h1, h2.ints, h3⟩
  have HUs : Hid (∀ W, Kept (fun _ => False) w4 W → Calls Tryd.prog 29 #[.pointer (some ⟨pbk, 0, none⟩), .int .i64 pb, .int .i64 day] W fun e w' => ∃ v', e = .returned v' ∧ Ints w' v' (((allE H).filter (usP pb day)).map (·.u)) ∧ Kept (fun _ => False) W w') := Lib.hid fun W kw => by
    refine (users_any W _ 16 H pb day (B2.out.kept (K4.out.then kw)) (by omega)).mono ?_
    rintro e w' ⟨v', h1, h2, h3⟩
    exact ⟨v', h1, by rw [← hus]; exact h2.ints, h3⟩
  have HRu : Hid (∀ W, Kept (fun _ => False) w4 W → Calls Tryd.prog 30 #[.slice ta T tc, .int .i64 pb, .int .i64 day] W fun e w' => ∃ v', e = .returned v' ∧ Ints w' v' (((allE H).filter (usP pb day)).map (·.u)) ∧ Kept (fun _ => False) W w') := Lib.hid fun W kw => by
    refine (rusers_any W _ (allE H) pb day (E2.out.kept (K4.out.then kw) (fun _ _ h => h)) (by have := HLen.out; omega)).mono ?_
    rintro e w' ⟨v', h1, h2, h3⟩
    exact ⟨v', h1, h2.ints, h3⟩
  have HC4 : Hid (∀ W, Kept (fun _ => False) w4 W → W.cell? ⟨P, 0, none⟩ = some (.int .i64 pa) ∧ W.cell? ⟨P, 1, none⟩ = some (.int .i64 pb)) := Lib.hid fun W kw => HC.out W (K4.out.then kw)
  have HFin := Lib.hid (HKW.out.then K4.out)
  clear hor hus hsm HC K3 K4 HWt
  generalize ((allE H).filter (onP pa day)).map (·.r) = L1 at *
  generalize ((allE H).filter (usP pb day)).map (·.u) = L2 at *
  rcases HCs.out with ⟨h0, rfl, rfl⟩ | ⟨hw1, rfl, rfl⟩
  · obtain ⟨n, rfl⟩ : ∃ n : Nat, tt = (n : Int) := ⟨tt.toNat, by omega⟩
    have hmx : max (n : Int) 0 = (n : Int) := by omega
    go_wp2_with fail
    go_region_held3 (fun w' => w'.cell? ⟨P, 0, none⟩ = some (.int .i64 pa) ∧ w'.cell? ⟨P, 1, none⟩ = some (.int .i64 pb))
      (first | exact HC4.out _ KC.out | exact HC4.out _ (Kept.refl _ _) | exact HC4.out _ (Kept.refl _ _).drew)
      ((first | (go_at_call 26; with_reducible refine (HOn.out _ (by first | exact KC.out | exact Kept.refl _ _ | exact (Kept.refl _ _).drew)).mono ?_; rintro e q1 ⟨s1, rfl, hs1, j1⟩; have KD := Lib.hid (Kept.then (show Kept (fun _ => False) w4 _ from (by first | exact KC.out | exact Kept.refl _ _ | exact (Kept.refl _ _).drew)) j1); (try clear KC); have KC := KD; clear KD; (try (replace S1 := Lib.hid (S1.out.keptB j1 (fun _ _ h => h)))); (try (replace I1 := Lib.hid (I1.out.kept j1 (fun _ _ h => h)))); (try (replace I2 := Lib.hid (I2.out.kept j1 (fun _ _ h => h)))); (try (replace I3 := Lib.hid (I3.out.kept j1 (fun _ _ h => h)))); (try (replace I4 := Lib.hid (I4.out.kept j1 (fun _ _ h => h)))); have S1 := Lib.hid hs1; clear hs1 j1) | (go_at_call 27; with_reducible refine (HLs.out _ _ KC.out S1.out).mono ?_; rintro e q2 ⟨l1, rfl, hi1, j2⟩; have KD := Lib.hid (Kept.then (show Kept (fun _ => False) w4 _ from (by first | exact KC.out | exact Kept.refl _ _ | exact (Kept.refl _ _).drew)) j2); (try clear KC); have KC := KD; clear KD; (try (replace S1 := Lib.hid (S1.out.keptB j2 (fun _ _ h => h)))); (try (replace I1 := Lib.hid (I1.out.kept j2 (fun _ _ h => h)))); (try (replace I2 := Lib.hid (I2.out.kept j2 (fun _ _ h => h)))); (try (replace I3 := Lib.hid (I3.out.kept j2 (fun _ _ h => h)))); (try (replace I4 := Lib.hid (I4.out.kept j2 (fun _ _ h => h)))); have I1 := Lib.hid hi1; clear hi1 j2) | (go_at_call 28; with_reducible refine (HRo.out _ (by first | exact KC.out | exact Kept.refl _ _ | exact (Kept.refl _ _).drew)).mono ?_; rintro e q3 ⟨l2, rfl, hi2, j3⟩; have KD := Lib.hid (Kept.then (show Kept (fun _ => False) w4 _ from (by first | exact KC.out | exact Kept.refl _ _ | exact (Kept.refl _ _).drew)) j3); (try clear KC); have KC := KD; clear KD; (try (replace S1 := Lib.hid (S1.out.keptB j3 (fun _ _ h => h)))); (try (replace I1 := Lib.hid (I1.out.kept j3 (fun _ _ h => h)))); (try (replace I2 := Lib.hid (I2.out.kept j3 (fun _ _ h => h)))); (try (replace I3 := Lib.hid (I3.out.kept j3 (fun _ _ h => h)))); (try (replace I4 := Lib.hid (I4.out.kept j3 (fun _ _ h => h)))); have I2 := Lib.hid hi2; clear hi2 j3) | (go_at_call 25; (first | (with_reducible refine (equali_any _ _ _ _ _ I3.out I4.out).mono ?_) | (with_reducible refine (equali_any _ _ _ _ _ I1.out I2.out).mono ?_)); rw [decide_eq_true rfl]; rintro e q4 ⟨rfl, j4⟩; have KD := Lib.hid (Kept.then (show Kept (fun _ => False) w4 _ from (by first | exact KC.out | exact Kept.refl _ _ | exact (Kept.refl _ _).drew)) j4); (try clear KC); have KC := KD; clear KD; (try (replace S1 := Lib.hid (S1.out.keptB j4 (fun _ _ h => h)))); (try (replace I1 := Lib.hid (I1.out.kept j4 (fun _ _ h => h)))); (try (replace I2 := Lib.hid (I2.out.kept j4 (fun _ _ h => h)))); (try (replace I3 := Lib.hid (I3.out.kept j4 (fun _ _ h => h)))); (try (replace I4 := Lib.hid (I4.out.kept j4 (fun _ _ h => h)))); clear j4) | (go_at_call 29; with_reducible refine (HUs.out _ (by first | exact KC.out | exact Kept.refl _ _ | exact (Kept.refl _ _).drew)).mono ?_; rintro e q5 ⟨l3, rfl, hi3, j5⟩; have KD := Lib.hid (Kept.then (show Kept (fun _ => False) w4 _ from (by first | exact KC.out | exact Kept.refl _ _ | exact (Kept.refl _ _).drew)) j5); (try clear KC); have KC := KD; clear KD; (try (replace S1 := Lib.hid (S1.out.keptB j5 (fun _ _ h => h)))); (try (replace I1 := Lib.hid (I1.out.kept j5 (fun _ _ h => h)))); (try (replace I2 := Lib.hid (I2.out.kept j5 (fun _ _ h => h)))); (try (replace I3 := Lib.hid (I3.out.kept j5 (fun _ _ h => h)))); (try (replace I4 := Lib.hid (I4.out.kept j5 (fun _ _ h => h)))); have I3 := Lib.hid hi3; clear hi3 j5) | (go_at_call 30; with_reducible refine (HRu.out _ (by first | exact KC.out | exact Kept.refl _ _ | exact (Kept.refl _ _).drew)).mono ?_; rintro e q6 ⟨l4, rfl, hi4, j6⟩; have KD := Lib.hid (Kept.then (show Kept (fun _ => False) w4 _ from (by first | exact KC.out | exact Kept.refl _ _ | exact (Kept.refl _ _).drew)) j6); (try clear KC); have KC := KD; clear KD; (try (replace S1 := Lib.hid (S1.out.keptB j6 (fun _ _ h => h)))); (try (replace I1 := Lib.hid (I1.out.kept j6 (fun _ _ h => h)))); (try (replace I2 := Lib.hid (I2.out.kept j6 (fun _ _ h => h)))); (try (replace I3 := Lib.hid (I3.out.kept j6 (fun _ _ h => h)))); (try (replace I4 := Lib.hid (I4.out.kept j6 (fun _ _ h => h)))); have I4 := Lib.hid hi4; clear hi4 j6)))
    have HEnd := Lib.hid (HFin.out.then KC.out)
    clear KC
    go_wp2_with fail
    go_ret
    exact ⟨rfl, HEnd.out⟩
  · have hneg : ¬ 0 ≤ wt := by omega
    have hdec : decide (0 ≤ wt) = false := decide_eq_false hneg
    have hmx : max wt 0 = 0 := by omega
    clear hw1
    go_wp2_with fail
    go_region_held3 (fun w' => w'.cell? ⟨P, 0, none⟩ = some (.int .i64 pa) ∧ w'.cell? ⟨P, 1, none⟩ = some (.int .i64 pb))
      (first | exact HC4.out _ KC.out | exact HC4.out _ (Kept.refl _ _) | exact HC4.out _ (Kept.refl _ _).drew)
      ((first | (go_at_call 26; with_reducible refine (HOn.out _ (by first | exact KC.out | exact Kept.refl _ _ | exact (Kept.refl _ _).drew)).mono ?_; rintro e q1 ⟨s1, rfl, hs1, j1⟩; have KD := Lib.hid (Kept.then (show Kept (fun _ => False) w4 _ from (by first | exact KC.out | exact Kept.refl _ _ | exact (Kept.refl _ _).drew)) j1); (try clear KC); have KC := KD; clear KD; (try (replace S1 := Lib.hid (S1.out.keptB j1 (fun _ _ h => h)))); (try (replace I1 := Lib.hid (I1.out.kept j1 (fun _ _ h => h)))); (try (replace I2 := Lib.hid (I2.out.kept j1 (fun _ _ h => h)))); (try (replace I3 := Lib.hid (I3.out.kept j1 (fun _ _ h => h)))); (try (replace I4 := Lib.hid (I4.out.kept j1 (fun _ _ h => h)))); have S1 := Lib.hid hs1; clear hs1 j1) | (go_at_call 27; with_reducible refine (HLs.out _ _ KC.out S1.out).mono ?_; rintro e q2 ⟨l1, rfl, hi1, j2⟩; have KD := Lib.hid (Kept.then (show Kept (fun _ => False) w4 _ from (by first | exact KC.out | exact Kept.refl _ _ | exact (Kept.refl _ _).drew)) j2); (try clear KC); have KC := KD; clear KD; (try (replace S1 := Lib.hid (S1.out.keptB j2 (fun _ _ h => h)))); (try (replace I1 := Lib.hid (I1.out.kept j2 (fun _ _ h => h)))); (try (replace I2 := Lib.hid (I2.out.kept j2 (fun _ _ h => h)))); (try (replace I3 := Lib.hid (I3.out.kept j2 (fun _ _ h => h)))); (try (replace I4 := Lib.hid (I4.out.kept j2 (fun _ _ h => h)))); have I1 := Lib.hid hi1; clear hi1 j2) | (go_at_call 28; with_reducible refine (HRo.out _ (by first | exact KC.out | exact Kept.refl _ _ | exact (Kept.refl _ _).drew)).mono ?_; rintro e q3 ⟨l2, rfl, hi2, j3⟩; have KD := Lib.hid (Kept.then (show Kept (fun _ => False) w4 _ from (by first | exact KC.out | exact Kept.refl _ _ | exact (Kept.refl _ _).drew)) j3); (try clear KC); have KC := KD; clear KD; (try (replace S1 := Lib.hid (S1.out.keptB j3 (fun _ _ h => h)))); (try (replace I1 := Lib.hid (I1.out.kept j3 (fun _ _ h => h)))); (try (replace I2 := Lib.hid (I2.out.kept j3 (fun _ _ h => h)))); (try (replace I3 := Lib.hid (I3.out.kept j3 (fun _ _ h => h)))); (try (replace I4 := Lib.hid (I4.out.kept j3 (fun _ _ h => h)))); have I2 := Lib.hid hi2; clear hi2 j3) | (go_at_call 25; (first | (with_reducible refine (equali_any _ _ _ _ _ I3.out I4.out).mono ?_) | (with_reducible refine (equali_any _ _ _ _ _ I1.out I2.out).mono ?_)); rw [decide_eq_true rfl]; rintro e q4 ⟨rfl, j4⟩; have KD := Lib.hid (Kept.then (show Kept (fun _ => False) w4 _ from (by first | exact KC.out | exact Kept.refl _ _ | exact (Kept.refl _ _).drew)) j4); (try clear KC); have KC := KD; clear KD; (try (replace S1 := Lib.hid (S1.out.keptB j4 (fun _ _ h => h)))); (try (replace I1 := Lib.hid (I1.out.kept j4 (fun _ _ h => h)))); (try (replace I2 := Lib.hid (I2.out.kept j4 (fun _ _ h => h)))); (try (replace I3 := Lib.hid (I3.out.kept j4 (fun _ _ h => h)))); (try (replace I4 := Lib.hid (I4.out.kept j4 (fun _ _ h => h)))); clear j4) | (go_at_call 29; with_reducible refine (HUs.out _ (by first | exact KC.out | exact Kept.refl _ _ | exact (Kept.refl _ _).drew)).mono ?_; rintro e q5 ⟨l3, rfl, hi3, j5⟩; have KD := Lib.hid (Kept.then (show Kept (fun _ => False) w4 _ from (by first | exact KC.out | exact Kept.refl _ _ | exact (Kept.refl _ _).drew)) j5); (try clear KC); have KC := KD; clear KD; (try (replace S1 := Lib.hid (S1.out.keptB j5 (fun _ _ h => h)))); (try (replace I1 := Lib.hid (I1.out.kept j5 (fun _ _ h => h)))); (try (replace I2 := Lib.hid (I2.out.kept j5 (fun _ _ h => h)))); (try (replace I3 := Lib.hid (I3.out.kept j5 (fun _ _ h => h)))); (try (replace I4 := Lib.hid (I4.out.kept j5 (fun _ _ h => h)))); have I3 := Lib.hid hi3; clear hi3 j5) | (go_at_call 30; with_reducible refine (HRu.out _ (by first | exact KC.out | exact Kept.refl _ _ | exact (Kept.refl _ _).drew)).mono ?_; rintro e q6 ⟨l4, rfl, hi4, j6⟩; have KD := Lib.hid (Kept.then (show Kept (fun _ => False) w4 _ from (by first | exact KC.out | exact Kept.refl _ _ | exact (Kept.refl _ _).drew)) j6); (try clear KC); have KC := KD; clear KD; (try (replace S1 := Lib.hid (S1.out.keptB j6 (fun _ _ h => h)))); (try (replace I1 := Lib.hid (I1.out.kept j6 (fun _ _ h => h)))); (try (replace I2 := Lib.hid (I2.out.kept j6 (fun _ _ h => h)))); (try (replace I3 := Lib.hid (I3.out.kept j6 (fun _ _ h => h)))); (try (replace I4 := Lib.hid (I4.out.kept j6 (fun _ _ h => h)))); have I4 := Lib.hid hi4; clear hi4 j6)))
    have HEnd := Lib.hid (HFin.out.then KC.out)
    clear KC
    go_wp2_with fail
    go_ret
    exact ⟨rfl, HEnd.out⟩
end Go.Proofs.YtccanbjnbmihgaaDoor
/-
  Raw assignments as they come in (one, and a list).
-/
namespace Go.Proofs.YtccanbjnbmihgaaDoor
open Go.Joins Go.ChangeShapes Go.WideShapes Go.ChangeAt Go.RowKit Go.Deep
set_option linter.unusedSimpArgs false
set_option linter.unusedVariables false
set_option linter.constructorNameAsVariable false

theorem u8_natM (a : Int) (h : (Lit.int .u8 a).wf = true) : ∃ n : Nat, a = (n : Int) ∧ n < 256 := by
  simp [Lit.wf, IntKind.min, IntKind.max, IntKind.signed, IntKind.bits] at h
  exact ⟨a.toNat, by omega, by omega⟩
theorem cellsRaw12 : Tryd.prog.cellsOf 70 = 3 := by kernel_rfl
theorem cellsU8M : Tryd.prog.cellsOf 5 = 1 := by kernel_rfl
theorem add_plainM (g off n : Nat) : (⟨g, off, none⟩ : Addr).add n = ⟨g, off + n, none⟩ := by unfold Addr.add; split <;> simp_all

set_option maxRecDepth 100000 in
theorem rawsL_of {H : Type} {enc : TypeId × Value → H} {W : World} {a : Option Addr} {len cap : Nat} {y : DataW H × List MemPlace} {fuel : Nat} (h : DataW.trod enc Tryd.prog W 0 (fun _ => true) true fuel 44 [.slice a len cap] = some y) :
    ∃ l, Raws W (.slice a len cap) l := by
  rcases open_slice Tryd.underlying44 h with ⟨hcs, _⟩ | ⟨x, l, c, m, n, D, Pl, hcs, _, hl, hm, hmm, _, hi⟩
  · injection hcs with hcs
    injection hcs with e1 e2 e3
    subst e1 e2 e3
    exact ⟨[], Or.inl ⟨⟨_, _, rfl, by unfold maxLen; omega⟩, rfl⟩⟩
  · injection hcs with hcs
    injection hcs with e1 e2 e3
    subst e1 e2 e3
    simp only [if_true] at hmm
    subst hmm
    have hel : ∀ i, i < len → ∃ x0 x1 x2 fu y0 y1 y2, W.cell? ((x.add (i * 3)).add 0) = some x0 ∧ W.cell? ((x.add (i * 3)).add 1) = some x1 ∧ W.cell? ((x.add (i * 3)).add 2) = some x2 ∧
        DataW.trod enc Tryd.prog W 0 (fun _ => true) true fu 5 [x0] = some y0 ∧ DataW.trod enc Tryd.prog W 0 (fun _ => true) true fu 5 [x1] = some y1 ∧ DataW.trod enc Tryd.prog W 0 (fun _ => true) true fu 5 [x2] = some y2 := by
      intro i hil
      obtain ⟨cs', hc, ht⟩ := hi i (by omega)
      rw [cellsRaw12] at hc
      obtain ⟨_, hcl, hat⟩ := World.cells?_some hc
      obtain ⟨y0, y1, y2, fu, _, hlen, t0, t1, t2⟩ := trod_struct3 Tryd.underlying70 ht
      rw [cellsRaw12] at hlen
      match cs', hlen with
      | [x0, x1, x2], _ =>
        refine ⟨x0, x1, x2, fu, y0, y1, y2, hat 0 (by omega), hat 1 (by omega), hat 2 (by omega), ?_, ?_, ?_⟩
        · simpa [cellsU8M] using t0
        · simpa [cellsU8M] using t1
        · simpa [cellsU8M] using t2
    by_cases h0 : len = 0
    · subst h0
      exact ⟨[], Or.inl ⟨⟨_, _, rfl, by omega⟩, rfl⟩⟩
    · obtain ⟨x0, _, _, _, _, _, _, hx0, _⟩ := hel 0 (by omega)
      rw [show (x.add (0 * 3)).add 0 = x from rfl] at hx0
      have hlt := World.block_lt_of_cell? W _ hx0
      have hs := World.cell?_spot hx0
      obtain ⟨g, off, spot⟩ := x
      simp only at hs
      subst hs
      have hr : ∀ i, ∃ r : Raw3, i < len → W.cell? ⟨g, off + i * 3, none⟩ = some (.int .u8 (r.a : Nat)) ∧ W.cell? ⟨g, off + i * 3 + 1, none⟩ = some (.int .u8 (r.b : Nat)) ∧ W.cell? ⟨g, off + i * 3 + 2, none⟩ = some (.int .u8 (r.c : Nat)) ∧ r.a < 256 ∧ r.b < 256 ∧ r.c < 256 := fun i => by
        by_cases hil : i < len
        · obtain ⟨x0, x1, x2, fu, y0, y1, y2, c0, c1, c2, t0, t1, t2⟩ := hel i hil
          rw [add_plainM, add_plainM] at c0 c1 c2
          obtain ⟨i0, e0, _, w0⟩ := DataW.trod_int Tryd.underlying5 t0
          obtain ⟨i1, e1, _, w1⟩ := DataW.trod_int Tryd.underlying5 t1
          obtain ⟨i2, e2, _, w2⟩ := DataW.trod_int Tryd.underlying5 t2
          injection e0 with e0; injection e1 with e1; injection e2 with e2
          subst e0 e1 e2
          obtain ⟨n0, rfl, h0⟩ := u8_natM _ w0
          obtain ⟨n1, rfl, h1⟩ := u8_natM _ w1
          obtain ⟨n2, rfl, h2⟩ := u8_natM _ w2
          exact ⟨⟨n0, n1, n2⟩, fun _ => ⟨c0, c1, c2, h0, h1, h2⟩⟩
        · exact ⟨raw0, fun h => absurd h hil⟩
      obtain ⟨f, hf⟩ := Classical.skolem.1 hr
      refine ⟨(List.range len).map f, Or.inr ⟨g, off, m, by simp, by simpa using hl, by omega, hlt, fun i hi => ?_⟩⟩
      have hil : i < len := by simpa using hi
      have e : ((List.range len).map f).getD i raw0 = f i := by simp [List.getD, hil]
      rw [e]
      exact hf i hil

set_option maxRecDepth 100000 in
theorem raws_in {H : Type} {enc : TypeId × Value → H} {W : World} {base : Nat} {v : Value} {d : DataW H} {p : List MemPlace} (o : Value.okWide Tryd.prog W .any base 44 v) (h : DataW.Trod enc Tryd.prog W 0 (fun _ => true) true 44 v d p) :
    ∃ rs, Raws W v rs := by
  obtain ⟨a, len, cap, rfl⟩ := okWide_slice Tryd.underlying44 o
  obtain ⟨fuel, h⟩ := h
  simp [Value.cells] at h
  exact rawsL_of h
set_option maxRecDepth 100000 in
theorem raw_in {H : Type} {enc : TypeId × Value → H} {W : World} {base : Nat} {v : Value} {d : DataW H} {p : List MemPlace} (o : Value.okWide Tryd.prog W .any base 70 v) (h : DataW.Trod enc Tryd.prog W 0 (fun _ => true) true 70 v d p) :
    ∃ r : Raw3, v = .agg #[.int .u8 (r.a : Nat), .int .u8 (r.b : Nat), .int .u8 (r.c : Nat)] ∧ r.a < 256 ∧ r.b < 256 ∧ r.c < 256 := by
  obtain ⟨v0, v1, v2, y0, y1, y2, n, rfl, _, _, t0, t1, t2⟩ := open_agg3 Tryd.underlying70 (by kernel_rfl) (by kernel_rfl) o h
  obtain ⟨i0, e0, _, w0⟩ := DataW.trod_int Tryd.underlying5 t0
  obtain ⟨i1, e1, _, w1⟩ := DataW.trod_int Tryd.underlying5 t1
  obtain ⟨i2, e2, _, w2⟩ := DataW.trod_int Tryd.underlying5 t2
  injection e0 with e0; injection e1 with e1; injection e2 with e2
  subst e0 e1 e2
  obtain ⟨n0, rfl, h0⟩ := u8_natM _ w0
  obtain ⟨n1, rfl, h1⟩ := u8_natM _ w1
  obtain ⟨n2, rfl, h2⟩ := u8_natM _ w2
  exact ⟨⟨n0, n1, n2⟩, rfl, h0, h1, h2⟩
end Go.Proofs.YtccanbjnbmihgaaDoor
/-
  A pair of numbers as it comes in.
-/
namespace Go.Proofs.YtccanbjnbmihgaaDoor
open Go.Joins Go.ChangeShapes Go.WideShapes Go.ChangeAt Go.RowKit Go.Deep
set_option linter.unusedVariables false

theorem okWide_arrM {P : Program} {w : World} {r : Reach} {base n : Nat} {t e : TypeId} {v : Value} (ht : P.underlying t = some (.array n e)) (h : Value.okWide P w r base t v) : ∃ cs, v = .agg cs ∧ cs.size = P.cellsOf t := by
  simp only [Value.okWide, ht] at h
  obtain ⟨cs, h1, h2, _⟩ := h
  exact ⟨cs, h1, h2⟩
theorem cellsIntM : Tryd.prog.cellsOf 3 = 1 := by kernel_rfl
set_option maxRecDepth 100000 in
theorem pair_in {H : Type} {enc : TypeId × Value → H} {W : World} {v : Value} {dd : DataW H} {p : List MemPlace} {base : Nat} (o : Value.okWide Tryd.prog W .any base 45 v) (h : DataW.Trod enc Tryd.prog W 0 (fun _ => true) true 45 v dd p) :
    ∃ a b : Int, v = .agg #[.int .i64 a, .int .i64 b] := by
  obtain ⟨cs, rfl, hsz⟩ := okWide_arrM Tryd.underlying45 o
  obtain ⟨fuel, hf⟩ := h
  obtain ⟨xs, m, _, _, hl, hxl, hi⟩ := DataW.trod_array Tryd.underlying45 hf
  have hl2 : cs.toList.length = 2 := by
    have : (Value.agg cs).cells.toList.length = 2 := hl.trans (by kernel_rfl)
    simpa [Value.cells] using this
  have key : ∀ i, i < 2 → ∃ n : Int, cs.toList[i]? = some (.int .i64 n) := fun i hi2 => by
    have h1 := hi i hi2
    rw [cellsIntM] at h1
    obtain ⟨x, hx⟩ : ∃ x, xs[i]? = some x := ⟨xs[i], List.getElem?_eq_getElem (by omega)⟩
    rw [hx] at h1
    obtain ⟨z, hc, _, hw⟩ := DataW.trod_int Tryd.underlying3 h1
    refine ⟨z, ?_⟩
    have := congrArg (·[0]?) hc
    simpa [Value.cells, List.getElem?_take, List.getElem?_drop] using this
  obtain ⟨a, ha⟩ := key 0 (by omega)
  obtain ⟨b, hb⟩ := key 1 (by omega)
  refine ⟨a, b, ?_⟩
  congr 1
  apply Array.ext'
  match hcl : cs.toList, hl2 with
  | [y0, y1], _ =>
    rw [hcl] at ha hb
    simp at ha hb
    rw [ha, hb]
end Go.Proofs.YtccanbjnbmihgaaDoor
