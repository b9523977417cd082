/- The first texts of this claim, one behind the other. -/
import Derived.Test.YtnmcihfegbdipaaDoorRfU
import Derived.Test.YtnmcihfegbdipaaDoorRStr
import Derived.Test.YtnmcihfegbdipaaDoorMake
import Derived.Test.YtnmcihfegbdipaaDoorBTz
import Derived.Test.YtnmcihfegbdipaaDoorBSeq
import Derived.Test.YtnmcihfegbdipaaDoorOf
import Derived.Laws.BitsAllLaws
import Derived.BigQuiet
import Derived.Deep.RegionHeld3
import Derived.Deep.DrawnRows
import Derived.Laws.MakeOwn
import Derived.Test.YtnmcihfegbdipaaDoorRfS
import Derived.Test.YtnmcihfegbdipaaDoorRfN
import Derived.Test.YtnmcihfegbdipaaDoorBEq
import Derived.Deep.RegionWith
import Derived.Test.YtnmcihfegbdipaaDoorRows
import Derived.Test.YtnmcihfegbdipaaDoorCore
import Derived.WalkKit
import Derived.ProofKit
import Derived.OpenShut
import Derived.ChangeOld
import Derived.Below
import Derived.Lib.SmallJoins
import Derived.Deep.Strs
import Derived.Test.YtnmcihfegbdipaaDoorArgIn
import Derived.Test.YtnmcihfegbdipaaDoorWriter
import Derived.Test.YtnmcihfegbdipaaDoorRead2
/-
  The reference's reader of layer 2: Flag and End.
-/
namespace Go.Proofs.YtnmcihfegbdipaaDoor
open Go.RowKit

set_option maxRecDepth 100000 in
set_option maxHeartbeats 800000 in
theorem mflag_any (w : World) (mb : Nat) (v : Value) (xs : List Nat) (err : Int) (h : Rd w mb v xs err) :
    Calls Tryd.prog 68 #[.pointer (some ⟨mb, 0, none⟩)] w fun e w' => e = .returned (.bool (flagS xs err).1) ∧
      ∃ v', Rd w' mb v' (flagS xs err).2.1 (flagS xs err).2.2 ∧ v'.ownBlock = v.ownBlock ∧ Kept (fun k => k = mb) w w' := by
  have HH := Lib.hid h
  by_cases he : err = 0
  · subst he
    have c0 := h.cell0; have c1 := h.cell1; have f0 := h.free0; have f1 := h.free1; have hblt := h.lt
    cases xs with
    | nil =>
      rw [show flagS [] 0 = (false, [], 6) from rfl]
      obtain ⟨a, c, hv⟩ : ∃ a c, v = .slice a 0 c := by
        rcases h.reads with ⟨rfl, _⟩ | ⟨g, off, cap, rfl, _⟩
        · exact ⟨_, _, rfl⟩
        · exact ⟨_, _, rfl⟩
      have HV := Lib.hid hv
      rw [hv] at c0
      clear hv h
      go_enter Tryd.func68, Tryd.ntmps68
      go_wp2_with fail
      go_ret
      exact ⟨rfl, v, HH.out.setErr 6, rfl, Kept.setCell _ _ _ _ rfl⟩
    | cons b t =>
      rcases h.reads with ⟨_, hx⟩ | ⟨g, off, cap, hv, h1, h2, h3, h4⟩
      · cases hx
      · have cb := h4 0 (by simp)
        rw [Nat.add_zero, show (b :: t).getD 0 0 = b from rfl] at cb
        have hap : g ≠ mb := fun e => h.apart (by rw [hv]; simp [Value.ownBlock, e])
        have hrd0 : Reads w (.slice (some ⟨g, off, none⟩) (b :: t).length cap) (b :: t) := hv ▸ h.reads
        have hv2 : v = .slice (some ⟨g, off, none⟩) (t.length + 1) cap := hv
        have hob : v.ownBlock = some g := by rw [hv]; rfl
        have HOB := Lib.hid hob
        rw [hv2] at c0
        obtain ⟨n, hn⟩ : ∃ n, n = t.length := ⟨_, rfl⟩
        rw [← hn] at c0
        have hnb : ((n : Int) + 1 == 0) = false := by simp; omega
        have hcap1 : n + 1 ≤ cap := by rw [hn]; exact h1
        have hcap2 : cap ≤ 9223372036854775807 := by unfold maxLen at h2; omega
        have HAP := Lib.hid hap; have HK := Lib.hid (fun o' => Kept.setCell (fun k => k = mb) w ⟨mb, 0, none⟩ o' rfl)
        by_cases hb : 1 < b
        · rw [show flagS (b :: t) 0 = (false, b :: t, 6) by simp [flagS, hb]]
          have hbi : (1 : Int) < (b : Int) := by omega
          clear hb hv hv2 hn h h1 h2 h4 hap hrd0 hob
          go_enter Tryd.func68, Tryd.ntmps68
          go_wp2_with fail
          go_ret
          exact ⟨rfl, v, HH.out.setErr 6, rfl, Kept.setCell _ _ _ _ rfl⟩
        · rw [show flagS (b :: t) 0 = (decide (b = 1), t, 0) by simp [flagS, hb]]
          have hbi : ¬ (1 : Int) < (b : Int) := by omega
          have hd : ((b : Int) == 1) = decide (b = 1) := by rw [Bool.eq_iff_iff]; simp; omega
          generalize decide (b = 1) = q at hd
          by_cases hnc : 1 = cap
          · have hn0 : n = 0 := by omega
            have hrd : Reads w (.slice (some ⟨g, off, none⟩) 0 0) t := Or.inr ⟨g, off, 0, by rw [← hn, hn0], by rw [← hn, hn0]; omega, by unfold maxLen; omega, h3, fun i hi => by omega⟩
            have HRD := Lib.hid hrd
            subst hn0
            subst hnc
            clear hb hv hv2 hn h h1 h2 h4 hap hrd0 hob hrd
            go_enter Tryd.func68, Tryd.ntmps68
            go_wp2_with fail
            go_ret
            exact ⟨rfl, _, HH.out.setLeft HRD.out (by simpa [Value.ownBlock] using HAP.out), by rw [HOB.out]; rfl, HK.out _⟩
          · have hnc' : ¬ cap = 1 := by omega
            have hrd := Reads.drop 1 hrd0 (by simp)
            rw [show (b :: t).drop 1 = t from rfl, show (b :: t).length - 1 = n by rw [hn]; simp] at hrd
            have HRD := Lib.hid hrd
            clear hb hv hv2 hn h h1 h2 h4 hap hrd0 hob hrd hnc
            go_enter Tryd.func68, Tryd.ntmps68
            go_wp2_with fail
            go_ret
            exact ⟨rfl, _, HH.out.setLeft HRD.out (by simpa [Value.ownBlock] using HAP.out), by rw [HOB.out]; rfl, HK.out _⟩
  · rw [show flagS xs err = (false, xs, err) from if_pos he]
    have c1 := h.cell1
    have he1 : (err == 0) = false := by simpa using he
    have he2 : (err != 0) = true := by simpa using he
    clear h he
    go_enter Tryd.func68, Tryd.ntmps68
    go_wp2_with fail
    go_ret
    exact ⟨rfl, v, HH.out, rfl, Kept.refl _ _⟩
end Go.Proofs.YtnmcihfegbdipaaDoor
/-
  arbacref02.Same: two byte strings held against each other.
-/
namespace Go.Proofs.YtnmcihfegbdipaaDoor
open Go.RowKit

set_option maxRecDepth 100000 in
set_option maxHeartbeats 400000 in
theorem same_any (w : World) (a b : Value) (xs ys : List Nat) (ha : Reads w a xs) (hb : Reads w b ys) (hx : ∀ b ∈ xs, b < 256) (hy : ∀ b ∈ ys, b < 256) :
    Calls Tryd.prog 56 #[a, b] w fun e w' => e = .returned (.bool (decide (xs = ys))) ∧ w = w' := by
  have h1 := reads_str ha
  have h2 := reads_str hb
  have hi := str_inj hx hy
  generalize strOfNums (xs.map fun n : Nat => (n : Int)) = A at h1 hi
  generalize strOfNums (ys.map fun n : Nat => (n : Int)) = B at h2 hi
  have HI := Lib.hid hi; clear hi
  clear ha hb hx hy
  go_enter Tryd.func56, Tryd.ntmps56
  go_wp2_with fail
  go_ret
  have hb : (A.toList == B.toList) = decide (xs = ys) := by
    rw [Bool.eq_iff_iff, beq_iff_eq, decide_eq_true_iff, ← HI.out, ByteArray.toList_eq, ByteArray.toList_eq]
    constructor
    · intro h
      cases A; cases B
      simp only [ByteArray.mk.injEq]
      exact Array.ext' h
    · intro h; rw [h]
  rw [hb]
  exact ⟨rfl, rfl⟩

end Go.Proofs.YtnmcihfegbdipaaDoor
/-
  bits.Set.All: the members come in ascending order, one by one, as far as the consumer asks.
-/
namespace Go.Proofs.YtnmcihfegbdipaaDoor
open Go.RowKit Go.Shelf
attribute [local go_sem] Oper.semAt_some

theorem kept_grown {a b : World} (h : Kept (fun _ => False) a b) : a.grownBy b none :=
  ⟨h.os, h.tape, h.output, h.size, fun k hk _ => h.block k hk (fun h => h)⟩

/-- What the iterator reads: the set in its box, its words, the library's table. -/
structure AllAt (W : World) (B : Nat) (M : Nat) (hv : Value) (hs : List Nat) : Prop where
  c0 : W.cell? ⟨B, 0, none⟩ = some (.int .u64 (M % 2 ^ 64 : Nat))
  c1 : W.cell? ⟨B, 1, none⟩ = some hv
  words : Words W hv hs
  can : Canon hs (M / 2 ^ 64)
  tz : Tz W
theorem AllAt.kept {S : Nat → Prop} {a b : World} {B M : Nat} {hv : Value} {hs : List Nat} (h : AllAt a B M hv hs) (hk : Kept S a b) (h1 : ¬ S B) (h2 : ∀ k, hv.ownBlock = some k → ¬ S k) (h3 : ¬ S 1) : AllAt b B M hv hs := by
  have hB := World.block_lt_of_cell? a _ h.c0
  exact ⟨(hk.cell (p := ⟨B, 0, none⟩) hB h1).trans h.c0, (hk.cell (p := ⟨B, 1, none⟩) hB h1).trans h.c1, h.words.kept hk h2, h.can, h.tz.kept hk h3⟩
theorem AllAt.on {a b : World} {B M : Nat} {hv : Value} {hs : List Nat} (h : AllAt a B M hv hs) (hk : Kept (fun _ => False) a b) : AllAt b B M hv hs := h.kept hk (fun h => h) (fun _ _ h => h) (fun h => h)

/-- What a round's contract gives the iterator. -/
def RoundOf (l N : Nat) (Kp : World → World → Prop) (J Jx : List Int → World → Prop) : Prop :=
  ∀ pre x W, J pre W → pre.length < N → 0 ≤ x → x ≤ 4095 → YieldAt Fence.wide 1 Tryd.prog l #[Value.int .i64 x] W fun e W' =>
    (e = .returned (.bool true) ∧ J (pre ++ [x]) W' ∧ Kp W W') ∨ (e = .returned (.bool false) ∧ Jx (pre ++ [x]) W')

set_option maxRecDepth 100000 in
set_option maxHeartbeats 6400000 in
theorem all1_in (l B M : Nat) (va : Option Addr) (vc : Nat) (hs : List Nat) (Kp : World → World → Prop) (J Jx : List Int → World → Prop) (W : World)
    (hY : RoundOf l (memS M (64 * (1 + hs.length))).length Kp J Jx)
    (hKp : ∀ a b, Kp a b → AllAt a B M (.slice va hs.length vc) hs → AllAt b B M (.slice va hs.length vc) hs)
    (hJ : ∀ pre a b, W.heap.size ≤ a.heap.size → J pre a → Kept (fun _ => False) a b → J pre b)
    (hKs : ∀ a b, Kp a b → a.heap.size ≤ b.heap.size)
    (hA : AllAt W B M (.slice va hs.length vc) hs) (hl : hs.length ≤ 63) (h0 : J [] W) :
    CallsIn Fence.wide 2 Tryd.prog 43 #[.func (.yield l) #[] #[], .pointer (some ⟨B, 0, none⟩)] W fun e W' => (∃ v, e = .returned v) ∧
      ((∃ ys, ys = memS M (64 * (1 + hs.length)) ∧ J ys W') ∨ (∃ pre, pre <+: memS M (64 * (1 + hs.length)) ∧ Jx pre W')) := by
  obtain ⟨n, hn⟩ : ∃ n, n = hs.length := ⟨_, rfl⟩
  rw [← hn] at hY hKp hA hl ⊢
  have HN := Lib.hid hn
  clear hn
  have HY := Lib.hid hY; have HKP := Lib.hid hKp; have HJ := Lib.hid hJ; have HA := Lib.hid hA; have HKS := Lib.hid hKs
  have H0 : Hid (J (memS M (64 * 0)) W) := h0
  clear hY hKp hJ hA h0 hKs
  have c0 := HA.out.c0; have c1 := HA.out.c1
  obtain ⟨lo, hlo⟩ : ∃ lo, lo = M % 2 ^ 64 := ⟨_, rfl⟩
  rw [← hlo] at c0
  have HLO := Lib.hid hlo
  clear hlo
  refine callsIn_of_wp Tryd.func43 rfl trivial ?_ rfl
  simp only [Tryd.ntmps43, List.size_toArray, List.length_cons, List.length_nil, Nat.reduceAdd, Nat.reduceSub, Array.replicate_succ, Array.replicate_zero, List.push_toArray, List.append_toArray, List.nil_append, List.cons_append]
  gi_wp2_with (refine ⟨trivial, ?_⟩; gi_at_call 44; refine (callsIn_wide.2 (words_any _ lo n vc va (by omega))).mono ?_; rintro e w1 ⟨rfl, hk1⟩)
  have HA1 := Lib.hid (HA.out.on hk1)
  have H1 : Hid (J (memS M (64 * 0)) w1) := HJ.out _ _ _ (Nat.le_refl _) H0.out hk1
  have hs1 : W.heap.size ≤ w1.heap.size := hk1.size
  clear hk1 H0 HA c0 c1
  gi_loopw [7] (fun kv wr => ∃ k : Nat, k ≤ n + 1 ∧ kv = .int .i64 k ∧ W.heap.size ≤ wr.heap.size ∧ Hid (AllAt wr B M (.slice va n vc) hs) ∧ Hid (J (memS M (64 * k)) wr)) (fun kv _ => n + 1 - (intOf kv).toNat)
  case atStart => exact ⟨0, by omega, rfl, hs1, HA1, H1⟩
  case round =>
    obtain ⟨k, hk, rfl, hsz, hat, hj⟩ := hrel
    clear HA1 H1
    by_cases hlt : k < n + 1
    · have l1 : (k : Int) < 1 + (n : Int) := by omega
      have c0 := hat.out.c0; have c1 := hat.out.c1
      rw [← HLO.out] at c0
      have hwd := wd_word M hs hat.out.can k
      rw [← HLO.out] at hwd
      have HWD := Lib.hid (word_any wr lo (.slice va n vc) hs k hat.out.words (by omega))
      change wd lo hs k = M / 2 ^ (64 * k) % 2 ^ 64 at hwd
      rw [hwd] at HWD
      have hy64 : M / 2 ^ (64 * k) % 2 ^ 64 < 2 ^ 64 := Nat.mod_lt _ (Nat.pow_pos (by omega))
      have hnx := fun t => memS_next (M := M) (k := k) (t := t)
      have hrs := fun t => memS_rest (M := M) (k := k) (t := t)
      have HNX := Lib.hid hnx; have HRS := Lib.hid hrs
      clear hwd hnx hrs
      obtain ⟨y, hy⟩ : ∃ y, y = M / 2 ^ (64 * k) % 2 ^ 64 := ⟨_, rfl⟩
      rw [← hy] at HWD hy64 HNX HRS
      clear hy
      obtain ⟨wo, hwo⟩ : ∃ wo : World, wo = wr := ⟨_, rfl⟩
      rw [← hwo] at hsz hat hj c0 c1 HWD ⊢
      clear hwo
      gi_wp2_with (refine ⟨trivial, ?_⟩; gi_at_call 45; refine (callsIn_wide.2 HWD.out).mono ?_; rintro e w2 ⟨rfl, hk2⟩)
      have HA2 := Lib.hid (hat.out.on hk2)
      have H2 : Hid (J (memS M (64 * k + 0)) w2) := HJ.out _ _ _ hsz hj.out hk2
      have hs2 : W.heap.size ≤ w2.heap.size := Nat.le_trans hsz hk2.size
      clear hk2 hat hj c0 c1 HWD
      gi_loopw [4] (fun yv wr => ∃ t : Nat, t ≤ 64 ∧ yv = .int .u64 (cutW y t : Nat) ∧ W.heap.size ≤ wr.heap.size ∧ Hid (AllAt wr B M (.slice va n vc) hs) ∧ Hid (J (memS M (64 * k + t)) wr)) (fun yv _ => (intOf yv).toNat)
      case atStart => exact ⟨0, by omega, by rw [cutW_zero], hs2, HA2, H2⟩
      case round =>
        obtain ⟨t, ht, rfl, hsz, hat, hj⟩ := hrel
        clear HA2 H2
        by_cases hz : cutW y t = 0
        · have hrest := HRS.out t ht hz
          have HJ3 : Hid (J (memS M (64 * (k + 1))) wr) := by show J _ _; rw [hrest]; exact hj.out
          clear hrest hj
          rw [hz]
          clear hz
          gi_wp2
          go_roundw
          case rel => exact ⟨k + 1, by omega, by go_num, hsz, hat, HJ3⟩
          case measure => simp [intOf]; omega
        · obtain ⟨g1, g2, g3, g4⟩ := HNX.out t hz
          have hdec := cutW_dec hz _ g4
          have hple := memS_prefix M (a := 64 * k + Lib.ctz 64 (cutW y t) + 1) (b := 64 * (1 + n)) (by omega)
          have hlen := hple.length_le
          rw [g3, List.length_append, List.length_singleton] at hlen
          rw [g3] at hple
          have hcy := cutW_le y t
          have HL := Lib.hid (fun (w : World) (h : Tz w) => leastIn_any (cutW y t) k (by omega) (by omega) (by omega) w h)
          have HTZ := Lib.hid hat.out.tz
          have HP := Lib.hid hple
          generalize Lib.ctz 64 (cutW y t) = j at g1 g2 g3 g4 hdec hlen HL HP
          obtain ⟨x, hx⟩ : ∃ x : Nat, x = 64 * k + j := ⟨_, rfl⟩
          rw [← hx] at g3 HL HP
          have HJ := Lib.hid hj.out; have HAT := Lib.hid hat.out
          obtain ⟨fn, tmps, assign, body, hy, hR⟩ := HY.out (memS M (64 * k + t)) (x : Int) wr hj.out (by omega) (by omega) (by omega)
          have HG3 := Lib.hid g3
          obtain ⟨W2, hW2⟩ : ∃ w, w = cutW y (j + 1) := ⟨_, rfl⟩
          have HW2 := Lib.hid hW2
          rw [← hW2] at g4 hdec
          generalize cutW y t = Wd at g4 hdec hcy HL hz ⊢
          have hzb : ((Wd : Int) != 0) = true := by simp; omega
          obtain ⟨Wm, hWm⟩ : ∃ m, m = Wd - 1 := ⟨_, rfl⟩
          have hsub : IntKind.u64.wrap ((Wd : Int) - 1) = (Wm : Int) := by rw [IntWalk.u64_in _ (by omega)]; omega
          have hand : bits .and .u64 (Wd : Int) (Wm : Int) = (W2 : Int) := by rw [hWm, u64_and_nat _ _ (by omega) (by omega), g4]
          have hand2 : bits .and .u64 (Wd : Int) ((Wd : Int) - 1) = (W2 : Int) := by rw [← hand]; congr 1; omega
          have hHD := Lib.hid hdec
          have HX0 := Lib.hid hx
          clear hj hat g3 hW2 g4 hdec hWm hlen hz hcy hx
          gi_wp2_with (refine ⟨trivial, ?_⟩; gi_at_call 46; refine (callsIn_wide.2 (HL.out wr HTZ.out)).mono ?_; rintro e w4 ⟨rfl, rfl⟩)
          refine hR.mono ?_
          rintro e W3 (⟨rfl, hJ3, hk3⟩ | ⟨rfl, hJx3⟩)
          · have HA3 := Lib.hid (HKP.out _ _ hk3 HAT.out)
            have HJ3 : Hid (J (memS M (64 * k + (j + 1))) W3) := by show J _ _; rw [← Nat.add_assoc, ← HX0.out, HG3.out]; exact hJ3
            have hs3 : W.heap.size ≤ W3.heap.size := Nat.le_trans hsz (HKS.out _ _ hk3)
            clear hJ3 hk3 hy hR
            gi_wp2
            go_roundw
            case rel => exact ⟨j + 1, by omega, by rw [← HW2.out], hs3, HA3, HJ3⟩
            case measure => have := hHD.out; simp [intOf]; omega
          · have HX := Lib.hid hJx3
            clear hJx3 hy hR
            gi_wp2
            refine bodyPost_ret (results_none rfl _ _ _) rfl ?_
            exact ⟨⟨_, rfl⟩, .inr ⟨memS M (64 * k + t) ++ [(x : Int)], HP.out, HX.out⟩⟩
    · have hkn : k = 1 + n := by omega
      have HJ4 := Lib.hid hj.out
      rw [hkn] at HJ4
      have l2 : ¬ (k : Int) < 1 + (n : Int) := by omega
      clear hj hat hkn
      gi_wp2
      go_end0
      first | exact ⟨⟨_, rfl⟩, .inl ⟨_, rfl, HJ4.out⟩⟩ | exact ⟨⟨_, rfl⟩, .inl HJ4.out⟩ | exact .inl HJ4.out
end Go.Proofs.YtnmcihfegbdipaaDoor
/-
  math/bits.OnesCount64: what it computes, step by step.
-/
namespace Go.Proofs.YtnmcihfegbdipaaDoor
open Go.RowKit

/-- What OnesCount64 computes. -/
def pop1 (x : Nat) : Nat := (x / 2 &&& 6148914691236517205) + (x &&& 6148914691236517205)
def pop2 (x : Nat) : Nat := (x / 4 &&& 3689348814741910323) + (x &&& 3689348814741910323)
def pop3 (x : Nat) : Nat := (x / 16 + x) &&& 1085102592571150095
def popS (x : Nat) : Nat :=
  (pop3 (pop2 (pop1 x)) + pop3 (pop2 (pop1 x)) / 256 + (pop3 (pop2 (pop1 x)) + pop3 (pop2 (pop1 x)) / 256) / 65536 + (pop3 (pop2 (pop1 x)) + pop3 (pop2 (pop1 x)) / 256 + (pop3 (pop2 (pop1 x)) + pop3 (pop2 (pop1 x)) / 256) / 65536) / 4294967296) &&& 127
theorem popS_le (x : Nat) : popS x ≤ 127 := Nat.and_le_right

set_option maxRecDepth 100000 in
set_option maxHeartbeats 1600000 in
theorem ones_any (x : Nat) (hx : x < 18446744073709551616) (w : World) : Calls Tryd.prog 85 #[.int .u64 x] w fun e w' => e = .returned (.int .i64 (popS x : Nat)) ∧ w = w' := by
  obtain ⟨a1, ha1⟩ : ∃ a, a = x / 2 &&& 6148914691236517205 := ⟨_, rfl⟩
  obtain ⟨b1, hb1⟩ : ∃ a, a = x &&& 6148914691236517205 := ⟨_, rfl⟩
  have la1 : a1 ≤ 6148914691236517205 := by rw [ha1]; exact Nat.and_le_right
  have lb1 : b1 ≤ 6148914691236517205 := by rw [hb1]; exact Nat.and_le_right
  obtain ⟨s1, hs1⟩ : ∃ a, a = a1 + b1 := ⟨_, rfl⟩
  obtain ⟨a2, ha2⟩ : ∃ a, a = s1 / 4 &&& 3689348814741910323 := ⟨_, rfl⟩
  obtain ⟨b2, hb2⟩ : ∃ a, a = s1 &&& 3689348814741910323 := ⟨_, rfl⟩
  have la2 : a2 ≤ 3689348814741910323 := by rw [ha2]; exact Nat.and_le_right
  have lb2 : b2 ≤ 3689348814741910323 := by rw [hb2]; exact Nat.and_le_right
  obtain ⟨s2, hs2⟩ : ∃ a, a = a2 + b2 := ⟨_, rfl⟩
  obtain ⟨q3, hq3⟩ : ∃ a, a = s2 / 16 + s2 := ⟨_, rfl⟩
  obtain ⟨s3, hs3⟩ : ∃ a, a = q3 &&& 1085102592571150095 := ⟨_, rfl⟩
  have ls3 : s3 ≤ 1085102592571150095 := by rw [hs3]; exact Nat.and_le_right
  obtain ⟨s4, hs4⟩ : ∃ a, a = s3 + s3 / 256 := ⟨_, rfl⟩
  obtain ⟨s5, hs5⟩ : ∃ a, a = s4 + s4 / 65536 := ⟨_, rfl⟩
  obtain ⟨s6, hs6⟩ : ∃ a, a = s5 + s5 / 4294967296 := ⟨_, rfl⟩
  obtain ⟨c, hc⟩ : ∃ a, a = s6 &&& 127 := ⟨_, rfl⟩
  have hfin : popS x = c := by
    have e3 : s3 = pop3 (pop2 (pop1 x)) := by
      rw [hs3, hq3, hs2, ha2, hb2, hs1, ha1, hb1]; rfl
    rw [hc, hs6, hs5, hs4, e3]; rfl
  rw [hfin]
  have hE : bits .and .u64 ((x : Int) / 2) 6148914691236517205 = (a1 : Int) ∧ bits .and .u64 (x : Int) 6148914691236517205 = (b1 : Int) ∧ IntKind.u64.wrap ((a1 : Int) + (b1 : Int)) = (s1 : Int) ∧
      bits .and .u64 ((s1 : Int) / 4) 3689348814741910323 = (a2 : Int) ∧ bits .and .u64 (s1 : Int) 3689348814741910323 = (b2 : Int) ∧ IntKind.u64.wrap ((a2 : Int) + (b2 : Int)) = (s2 : Int) ∧
      IntKind.u64.wrap ((s2 : Int) / 16 + (s2 : Int)) = (q3 : Int) ∧ bits .and .u64 (q3 : Int) 1085102592571150095 = (s3 : Int) ∧
      IntKind.u64.wrap ((s3 : Int) + (s3 : Int) / 256) = (s4 : Int) ∧ IntKind.u64.wrap ((s4 : Int) + (s4 : Int) / 65536) = (s5 : Int) ∧ IntKind.u64.wrap ((s5 : Int) + (s5 : Int) / 4294967296) = (s6 : Int) ∧
      IntKind.i64.wrap (s6 : Int) = (s6 : Int) ∧ bits .and .i64 (s6 : Int) 127 = (c : Int) := by
    refine ⟨?_, ?_, ?_, ?_, ?_, ?_, ?_, ?_, ?_, ?_, ?_, ?_, ?_⟩
    · rw [ha1]; have := u64_and_nat (x / 2) 6148914691236517205 (by omega) (by omega); exact this
    · rw [hb1]; have := u64_and_nat x 6148914691236517205 (by omega) (by omega); exact this
    · rw [IntWalk.u64_in _ (by omega)]; omega
    · rw [ha2]; have := u64_and_nat (s1 / 4) 3689348814741910323 (by omega) (by omega); exact this
    · rw [hb2]; have := u64_and_nat s1 3689348814741910323 (by omega) (by omega); exact this
    · rw [IntWalk.u64_in _ (by omega)]; omega
    · rw [IntWalk.u64_in _ (by omega)]; omega
    · rw [hs3]; have := u64_and_nat q3 1085102592571150095 (by omega) (by omega); exact this
    · rw [IntWalk.u64_in _ (by omega)]; omega
    · rw [IntWalk.u64_in _ (by omega)]; omega
    · rw [IntWalk.u64_in _ (by omega)]; omega
    · exact IntWalk.i64_in _ (by omega)
    · rw [hc]
      have h1 : (BitVec.ofInt 64 (s6 : Int)).toNat = s6 := by rw [BitVec.ofInt_natCast, BitVec.toNat_ofNat]; omega
      have h2 : s6 &&& 127 ≤ 127 := Nat.and_le_right
      show IntKind.i64.wrap ((BitVec.ofInt 64 (s6 : Int) &&& BitVec.ofInt 64 127).toNat : Int) = _
      rw [BitVec.toNat_and, h1, show (BitVec.ofInt 64 127).toNat = 127 from rfl]
      exact IntWalk.i64_in _ (by omega)
  clear ha1 hb1 la1 lb1 hs1 ha2 hb2 la2 lb2 hs2 hq3 hs3 ls3 hs4 hs5 hs6 hc hfin hx
  obtain ⟨e1, e2, e3, e4, e5, e6, e7, e8, e9, e10, e11, e12, e13⟩ := hE
  go_enter Tryd.func85, Tryd.ntmps85
  go_wp2_with fail
  go_ret
  exact ⟨rfl, rfl⟩
end Go.Proofs.YtnmcihfegbdipaaDoor
/-
  bits.Set.Equal: two sets are equal exactly if their numbers are.
-/
namespace Go.Proofs.YtnmcihfegbdipaaDoor
open Go.RowKit

theorem wl_inj {A B n : Nat} (hA : A < 2 ^ (64 * n)) (hB : B < 2 ^ (64 * n)) (h : wl A n = wl B n) : A = B := by
  refine Nat.eq_of_testBit_eq fun j => ?_
  by_cases hj : j < 64 * n
  · have h1 := congrArg (fun l => (l.getD (j / 64) 0).testBit (j % 64)) h
    simp only [wl_getD _ _ _ (show j / 64 < n by omega), Nat.testBit_mod_two_pow, Nat.testBit_div_two_pow] at h1
    have h2 : j % 64 < 64 := by omega
    have h3 : j % 64 + 64 * (j / 64) = j := by omega
    simpa [h2, h3] using h1
  · rw [Nat.testBit_lt_two_pow (Nat.lt_of_lt_of_le hA (Nat.pow_le_pow_right (by omega) (by omega))), Nat.testBit_lt_two_pow (Nat.lt_of_lt_of_le hB (Nat.pow_le_pow_right (by omega) (by omega)))]

theorem Canon.inj {hs : List Nat} {A B : Nat} (h : Canon hs A) (k : Canon hs B) : A = B :=
  wl_inj h.lt k.lt (h.eq.symm.trans k.eq)

theorem Canon.le {a b : List Nat} {M : Nat} (h : Canon a M) (k : Canon b M) : b.length ≤ a.length := by
  rcases k.last with e | e
  · omega
  · by_cases hl : b.length ≤ a.length
    · exact hl
    · exfalso
      refine e (Nat.div_eq_of_lt (Nat.lt_of_lt_of_le h.lt (Nat.pow_le_pow_right (by omega) (by omega))))

theorem Canon.uniq {a b : List Nat} {M : Nat} (h : Canon a M) (k : Canon b M) : a = b := by
  have hl : a.length = b.length := Nat.le_antisymm (k.le h) (h.le k)
  rw [h.eq, k.eq, hl]

/-- A row of words, cell by cell. -/
theorem words_form {w : World} {v : Value} {xs : List Nat} (h : Words w v xs) : ∃ a c, v = .slice a xs.length c ∧ xs.length ≤ maxLen ∧ ∀ i, i < xs.length → ∃ g off, a = some ⟨g, off, none⟩ ∧ g < w.heap.size ∧ w.cell? ⟨g, off + i, none⟩ = some (.int .u64 (xs.getD i 0 : Nat)) := by
  rcases h with ⟨h, h2⟩ | ⟨g, off, cap, h, h1, h3, h4, h5⟩
  · exact ⟨none, 0, by rw [h, h2]; rfl, by rw [h2]; simp, fun i hi => by rw [h2] at hi; simp at hi⟩
  · exact ⟨_, _, h, by omega, fun i hi => ⟨g, off, rfl, h4, h5 i hi⟩⟩

theorem take_eq_succ {xs ys : List Nat} {k : Nat} (h : xs.take k = ys.take k) (hx : k < xs.length) (hy : k < ys.length) (he : xs.getD k 0 = ys.getD k 0) : xs.take (k + 1) = ys.take (k + 1) := by
  rw [List.take_succ_eq_append_getElem hx, List.take_succ_eq_append_getElem hy, h]
  simp only [List.getD_eq_getElem?_getD, List.getElem?_eq_getElem hx, List.getElem?_eq_getElem hy, Option.getD_some] at he
  rw [he]

set_option maxRecDepth 100000 in
set_option maxHeartbeats 1600000 in
theorem equalw_any (w : World) (v u : Value) (xs ys : List Nat) (hv : Words w v xs) (hu : Words w u ys) :
    Calls Tryd.prog 40 #[v, u] w fun e w' => e = .returned (.bool (decide (xs = ys))) ∧ Kept (fun _ => False) w w' := by
  obtain ⟨a, c, rfl, hm, hx⟩ := words_form hv
  obtain ⟨a', c', rfl, hm', hy⟩ := words_form hu
  have HX := Lib.hid hx; have HY := Lib.hid hy
  clear hx hy hv hu
  have hm1 : xs.length ≤ 9223372036854775807 := by unfold maxLen at hm; omega
  obtain ⟨n, hn⟩ : ∃ n, n = xs.length := ⟨_, rfl⟩
  obtain ⟨m, hmm⟩ : ∃ m, m = ys.length := ⟨_, rfl⟩
  rw [← hn, ← hmm]
  by_cases hne : n = m
  · have hyl : ys.length = n := by omega
    subst hne
    clear hmm
    go_enter Tryd.func40, Tryd.ntmps40
    rw [← hn] at hm1
    have HN := Lib.hid hn; have HYL := Lib.hid hyl; clear hn hyl hm hm'
    go_wp2_with fail
    go_loopw [13] (fun iv wr => ∃ k : Nat, k ≤ n ∧ iv = .int .i64 k ∧ Hid (xs.take k = ys.take k) ∧ Kept (fun _ => False) w wr) (fun iv _ => n - (intOf iv).toNat)
    case atStart => exact ⟨0, Nat.zero_le _, rfl, rfl, Kept.refl _ _⟩
    case round =>
      obtain ⟨k, hk, rfl, ht, hkw⟩ := hrel
      by_cases hlt : k < n
      · have hlt' : (k : Int) < (n : Int) := by omega
        have hk0 : (0 : Int) ≤ (k : Int) := by omega
        obtain ⟨g, off, rfl, hg, hc⟩ := HX.out k (by rw [← HN.out]; exact hlt)
        obtain ⟨g', off', rfl, hg', hc'⟩ := HY.out k (by rw [HYL.out]; exact hlt)
        obtain ⟨x, hx⟩ : ∃ x, x = xs.getD k 0 := ⟨_, rfl⟩
        obtain ⟨y, hy⟩ : ∃ y, y = ys.getD k 0 := ⟨_, rfl⟩
        rw [← hx] at hc
        rw [← hy] at hc'
        have c1 := (hkw.cell (p := ⟨g, off + k, none⟩) hg (fun h => h)).trans hc
        have c2 := (hkw.cell (p := ⟨g', off' + k, none⟩) hg' (fun h => h)).trans hc'
        have HX1 := Lib.hid hx; have HY1 := Lib.hid hy; clear hx hy hc hc'
        by_cases hxy : x = y
        · subst hxy
          go_wp2_with fail
          go_quiet (fail)
          go_wp2_with fail
          go_roundw
          case rel => exact ⟨k + 1, by omega, by go_num, take_eq_succ ht.out (by rw [← HN.out]; exact hlt) (by rw [HYL.out]; exact hlt) (by rw [← HX1.out, ← HY1.out]), hkw.drewN _⟩
          case measure => simp [intOf]; omega
        · have hb : ((x : Int) == (y : Int)) = false := by simp; omega
          go_wp2_with fail
          go_quiet (fail)
          go_wp2_with fail
          go_ret
          refine ⟨?_, hkw.drewN _⟩
          have : decide (xs = ys) = false := by
            simp only [decide_eq_false_iff_not]
            intro e
            exact hxy (by rw [HX1.out, HY1.out, e])
          rw [this]; rfl
      · obtain rfl : k = n := by omega
        go_wp2_with fail
        go_ret
        refine ⟨?_, hkw⟩
        have h := ht.out
        rw [List.take_of_length_le (by rw [← HN.out]; exact Nat.le_refl _), List.take_of_length_le (by rw [HYL.out]; exact Nat.le_refl _)] at h
        rw [show decide (xs = ys) = true by simpa using h]; rfl
  · have hd : decide (xs = ys) = false := by
      simp only [decide_eq_false_iff_not]
      intro e
      exact hne (by rw [hn, hmm, e])
    rw [hd]
    have hb : ((n : Int) == (m : Int)) = false := by simp; omega
    clear hd hn hmm hm1 hm hm'
    go_enter Tryd.func40, Tryd.ntmps40
    go_wp2_with fail
    go_ret
    exact ⟨rfl, Kept.refl _ _⟩

set_option maxRecDepth 100000 in
set_option maxHeartbeats 800000 in
/-- 'Equal' of any two sets. -/
theorem equal_any (w : World) (v u : Value) (M K : Nat) (hv : SetV w v M) (hu : SetV w u K) :
    Calls Tryd.prog 10 #[v, u] w fun e w' => e = .returned (.bool (decide (M = K))) ∧ Kept (fun _ => False) w w' := by
  obtain ⟨a, hs, rfl, hw, hc, _⟩ := hv.ex
  obtain ⟨b, ks, rfl, hw', hc', _⟩ := hu.ex
  obtain ⟨l1, hl1⟩ : ∃ l, l = M % 2 ^ 64 := ⟨_, rfl⟩
  obtain ⟨l2, hl2⟩ : ∃ l, l = K % 2 ^ 64 := ⟨_, rfl⟩
  rw [← hl1, ← hl2]
  obtain ⟨a1, c1, hf1⟩ := hw.form
  obtain ⟨a2, c2, hf2⟩ := hw'.form
  have hE := fun (W : World) (hk : Kept (fun _ => False) w W) => equalw_any W a b hs ks (hw.kept hk (fun _ _ h => h)) (hw'.kept hk (fun _ _ h => h))
  have HE := Lib.hid hE; clear hE
  generalize hs.length = n1 at hf1
  generalize ks.length = n2 at hf2
  subst hf1 hf2
  have hka : Kept (fun _ => False) w ((w.alloc (.cells #[.int .u64 l1, .slice a1 n1 c1] 27)).alloc (.cells #[.int .u64 l2, .slice a2 n2 c2] 27)) := (Kept.alloc _ _ _).then (Kept.alloc _ _ _)
  have HKA := Lib.hid hka; clear hka
  by_cases hl : l1 = l2
  · have hd : decide (M = K) = decide (hs = ks) := by
      congr 1
      refine propext ⟨fun e => ?_, fun e => ?_⟩
      · subst e; exact hc.uniq hc'
      · subst e
        have h3 := hc.inj hc'
        have h1 := Nat.div_add_mod M (2 ^ 64)
        have h2 := Nat.div_add_mod K (2 ^ 64)
        rw [← h1, ← h2, h3, ← hl1, ← hl2, hl]
    rw [hd]
    clear hd hl1 hl2 hv hu hw hw' hc hc'
    subst hl
    go_enter Tryd.func10, Tryd.ntmps10
    go_wp2_with fail
    refine (HE.out _ HKA.out).mono ?_
    rintro e w1 ⟨rfl, hk⟩
    go_wp2_with fail
    go_ret
    exact ⟨rfl, HKA.out.then hk⟩
  · have hd : decide (M = K) = false := by
      simp only [decide_eq_false_iff_not]
      intro e
      exact hl (by rw [hl1, hl2, e])
    rw [hd]
    have hb : ((l1 : Int) == (l2 : Int)) = false := by simp; omega
    clear hd hl1 hl2 hv hu hw hw' hc hc' HE
    go_enter Tryd.func10, Tryd.ntmps10
    go_wp2_with fail
    go_ret
    exact ⟨rfl, HKA.out⟩

end Go.Proofs.YtnmcihfegbdipaaDoor
/-
  bits.Set.List: the members in ascending order.
-/
namespace Go.Proofs.YtnmcihfegbdipaaDoor
open Go.RowKit
attribute [local go_sem ↓] Go.wp_at_zero Go.wp_at_succ
set_option linter.unusedSimpArgs false

/-- What Len computes. -/
def lenS (M : Nat) (hs : List Nat) : Nat := popS (M % 2 ^ 64) + (hs.map popS).sum
theorem pop_sum (hs : List Nat) (k : Nat) (h : k < hs.length) : ((hs.take (k + 1)).map popS).sum = ((hs.take k).map popS).sum + popS (hs.getD k 0) := by
  rw [List.take_succ_eq_append_getElem h]
  simp only [List.map_append, List.map_cons, List.map_nil, List.sum_append, List.sum_cons, List.sum_nil, Nat.add_zero]
  congr 2
  simp [List.getD, h]
theorem pop_bound : ∀ hs : List Nat, (hs.map popS).sum ≤ 127 * hs.length
  | [] => by simp
  | x :: xs => by
    have := pop_bound xs
    have h := popS_le x
    rw [List.map_cons, List.sum_cons, List.length_cons]; omega

set_option maxRecDepth 100000 in
set_option maxHeartbeats 1600000 in
theorem len_any (w : World) (v : Value) (M : Nat) (hv : Value) (hs : List Nat) (hf : v = .agg #[.int .u64 (M % 2 ^ 64 : Nat), hv]) (hw : Words w hv hs) (hc : Canon hs (M / 2 ^ 64)) (hsm : hs.length ≤ 63) :
    Calls Tryd.prog 48 #[v] w fun e w' => e = .returned (.int .i64 (lenS M hs : Nat)) ∧ Kept (fun _ => False) w w' := by
  subst hf
  have hby : ∀ i, hs.getD i 0 < 2 ^ 64 := fun i => by
    by_cases hi : i < hs.length
    · rw [hc.eq, wl_getD _ _ _ hi]; exact Nat.mod_lt _ (Nat.pow_pos (by omega))
    · rw [List.getD_eq_getElem?_getD, List.getElem?_eq_none (by omega)]; exact Nat.pow_pos (by omega)
  obtain ⟨va, vc, hf, _, hx⟩ := words_form hw
  obtain ⟨n, hn⟩ : ∃ n, n = hs.length := ⟨_, rfl⟩
  rw [← hn] at hf hx hsm
  have hlo : M % 2 ^ 64 < 2 ^ 64 := Nat.mod_lt _ (Nat.pow_pos (by omega))
  have hLS : lenS M hs = popS (M % 2 ^ 64) + (hs.map popS).sum := rfl
  generalize M % 2 ^ 64 = lo at hlo hLS ⊢
  obtain ⟨R, hR⟩ : ∃ R, R = lenS M hs := ⟨_, rfl⟩
  rw [← hR] at hLS ⊢
  have HR := Lib.hid hLS; have HN := Lib.hid hn
  have hp0 := popS_le lo
  have HBD := Lib.hid (fun k : Nat => pop_bound (hs.take k))
  have HX := Lib.hid hx; have HBY := Lib.hid hby
  have HO := Lib.hid (fun (w : World) => ones_any lo (by omega) w)
  clear hw hc hx hn hby hlo hLS hR
  subst hf
  have KA := Lib.hid (Kept.alloc (fun _ => False) w (.cells #[.int .u64 lo, .slice va n vc] 27))
  go_enter Tryd.func48, Tryd.ntmps48
  go_wp2_with fail
  refine (HO.out _).mono ?_
  rintro e w1 ⟨rfl, rfl⟩
  go_wp2_with fail
  obtain ⟨p0, hp0e⟩ : ∃ p, p = popS lo := ⟨_, rfl⟩
  rw [← hp0e] at hp0 HR ⊢
  clear hp0e HO
  generalize w.alloc (.cells #[.int .u64 lo, .slice va n vc] 27) = wA at KA ⊢
  go_loop [3, 12] (fun sv iv => ∃ k s : Nat, k ≤ n ∧ iv = .int .i64 k ∧ s ≤ 127 * (k + 1) ∧ sv = .int .i64 s ∧ Hid (s = p0 + ((hs.take k).map popS).sum)) (fun _ iv => n - (intOf iv).toNat)
  case atStart => exact ⟨0, p0, by omega, rfl, by omega, rfl, by show p0 = p0 + _; simp⟩
  case round =>
    obtain ⟨k, s, hk, rfl, hs1, rfl, hsum⟩ := hrel
    by_cases hlt : k < n
    · have l1 : (k : Int) < (n : Int) := by omega
      have l0 : (0 : Int) ≤ (k : Int) := by omega
      obtain ⟨g, off, rfl, hg, hcell⟩ := HX.out k (by assumption)
      have hcell2 : wA.cell? ⟨g, off + k, none⟩ = _ := (KA.out.cell (p := ⟨g, off + k, none⟩) hg (fun h => h)).trans hcell
      have HO2 := Lib.hid (fun (w : World) => ones_any _ (HBY.out k) w)
      have hp := popS_le (hs.getD k 0)
      have hnext := pop_sum hs k (by have := HN.out; omega)
      have HNX := Lib.hid hnext
      clear hcell hnext
      generalize hs.getD k 0 = y at hcell2 HO2 hp HNX
      obtain ⟨c2, hc2⟩ : ∃ c, c = popS y := ⟨_, rfl⟩
      rw [← hc2] at HO2 hp HNX
      clear hc2
      go_wp2_with fail
      refine (HO2.out _).mono ?_
      rintro e w1 ⟨rfl, rfl⟩
      go_wp2_with fail
      go_round
      case rel => exact ⟨k + 1, s + c2, by omega, by go_num, by omega, by go_num, by show _ = _; rw [HNX.out, hsum.out]; omega⟩
      case measure => simp [intOf]; omega
    · have hRs : s = R := by rw [HR.out, hsum.out, List.take_of_length_le (by have := HN.out; omega)]
      have HRS := Lib.hid hRs
      clear hRs
      go_wp2_with fail
      go_ret
      exact ⟨congrArg (fun z : Nat => Ending.returned (Value.int .i64 (z : Int))) HRS.out, KA.out⟩
end Go.Proofs.YtnmcihfegbdipaaDoor
/-
  bits.Set.List: the members in ascending order.
-/
namespace Go.Proofs.YtnmcihfegbdipaaDoor
open Go.RowKit
attribute [local go_sem ↓] Go.wp_at_zero Go.wp_at_succ
set_option linter.unusedSimpArgs false

theorem AllAt.blocks {a b : World} {B M : Nat} {hv : Value} {hs : List Nat} (h : AllAt a B M hv hs) (hsz : a.heap.size ≤ b.heap.size) (h1 : b.heap[B]? = a.heap[B]?) (h2 : ∀ k, hv.ownBlock = some k → b.heap[k]? = a.heap[k]?) (h3 : b.heap[1]? = a.heap[1]?) : AllAt b B M hv hs := by
  refine ⟨(World.cell?_of_block (w := a) h1).trans h.c0, (World.cell?_of_block (w := a) h1).trans h.c1, ?_, h.can, ⟨Nat.lt_of_lt_of_le h.tz.lt hsz, fun j hj => (World.cell?_of_block (w := a) h3).trans (h.tz.tab j hj)⟩⟩
  rcases h.words with hw | ⟨g, off, cap, rfl, e1, e2, e3, e4⟩
  · exact Or.inl hw
  · exact Or.inr ⟨g, off, cap, rfl, e1, e2, Nat.lt_of_lt_of_le e3 hsz, fun i hi => (World.cell?_of_block (w := a) (h2 g rfl)).trans (e4 i hi)⟩

/-- The iterator's contract, for whoever keeps what it reads. -/
theorem all_stops (S : Nat → Prop) (M' B M : Nat) (va : Option Addr) (vc : Nat) (hs : List Nat) (w : World) (hA : AllAt w B M (.slice va hs.length vc) hs) (hl : hs.length ≤ 63) (hB : B < M') (hB2 : ¬ S B)
    (hw : ∀ k, (Value.slice va hs.length vc).ownBlock = some k → k < M' ∧ ¬ S k) (hg : 1 < M') (hg2 : ¬ S 1) :
    SeqStopsK Fence.wide 2 Tryd.prog 43 #[.pointer (some ⟨B, 0, none⟩)] (fun x : Int => #[Value.int .i64 x]) (KeepM S M') (fun ys => ys = memS M (64 * (1 + hs.length))) (fun pre => pre <+: memS M (64 * (1 + hs.length))) (memS M (64 * (1 + hs.length))).length w := by
  intro l J Jx W hW hJ hJx hY h0
  have hBlt := World.block_lt_of_cell? w _ hA.c0
  have hA2 : AllAt W B M (.slice va hs.length vc) hs := hA.on (Kept.ofBelow _ hW)
  refine all1_in l B M va vc hs (KeepM S M') J Jx W (fun pre x W1 h1 h2 _ _ => hY pre x W1 h1 h2) (fun a b hk ha => ?_) (fun pre a b _ hj hk => hJ pre a b none hj (kept_grown hk) (fun r e => by cases e)) (fun a b hk => hk.size) hA2 hl h0
  have h1 := World.block_lt_of_cell? a _ ha.c0
  refine ha.blocks hk.size (hk.block B hB h1 hB2) (fun k hk2 => ?_) (hk.block _ hg ha.tz.lt hg2)
  exact hk.block k (hw k hk2).1 (ha.words.lt k hk2) (hw k hk2).2

/-- A number that can be a member. -/
abbrev Mem : Type := {x : Int // 0 ≤ x ∧ x ≤ 4095}
/-- The iterator's contract, for a consumer who asks that what comes can be a member. -/
theorem all_stopsM (S : Nat → Prop) (M' B M : Nat) (va : Option Addr) (vc : Nat) (hs : List Nat) (w : World) (hA : AllAt w B M (.slice va hs.length vc) hs) (hl : hs.length ≤ 63) (hB : B < M') (hB2 : ¬ S B)
    (hw : ∀ k, (Value.slice va hs.length vc).ownBlock = some k → k < M' ∧ ¬ S k) (hg : 1 < M') (hg2 : ¬ S 1) :
    SeqStopsK Fence.wide 2 Tryd.prog 43 #[.pointer (some ⟨B, 0, none⟩)] (fun x : Mem => #[Value.int .i64 x.1]) (KeepM S M') (fun ys => ys.map (·.1) = memS M (64 * (1 + hs.length))) (fun pre => pre.map (·.1) <+: memS M (64 * (1 + hs.length))) (memS M (64 * (1 + hs.length))).length w := by
  intro l J Jx W hW hJ hJx hY h0
  have hBlt := World.block_lt_of_cell? w _ hA.c0
  have hA2 : AllAt W B M (.slice va hs.length vc) hs := hA.on (Kept.ofBelow _ hW)
  refine (all1_in l B M va vc hs (KeepM S M') (fun pre V => ∃ p : List Mem, p.map (·.1) = pre ∧ J p V) (fun pre V => ∃ p : List Mem, p.map (·.1) = pre ∧ Jx p V) W (fun pre x W1 h1 h2 h3 h4 => ?_) (fun a b hk ha => ?_)
    (fun pre a b _ hj hk => hj.imp fun p hp => ⟨hp.1, hJ p a b none hp.2 (kept_grown hk) (fun r e => by cases e)⟩) (fun a b hk => hk.size) hA2 hl ⟨[], rfl, h0⟩).mono ?_
  · obtain ⟨p, rfl, hp⟩ := h1
    obtain ⟨fn, tmps, assign, body, hy, hR⟩ := hY p ⟨x, h3, h4⟩ W1 hp (by simpa using h2)
    refine ⟨fn, tmps, assign, body, hy, hR.mono ?_⟩
    rintro e W' (⟨rfl, a, b⟩ | ⟨rfl, a⟩)
    · exact .inl ⟨rfl, ⟨p ++ [⟨x, h3, h4⟩], by rw [List.map_append]; rfl, a⟩, b⟩
    · exact .inr ⟨rfl, ⟨p ++ [⟨x, h3, h4⟩], by rw [List.map_append]; rfl, a⟩⟩
  · have h1 := World.block_lt_of_cell? a _ ha.c0
    refine ha.blocks hk.size (hk.block B hB h1 hB2) (fun k hk2 => ?_) (hk.block _ hg ha.tz.lt hg2)
    exact hk.block k (hw k hk2).1 (ha.words.lt k hk2) (hw k hk2).2
  · rintro e W' ⟨he, ⟨ys, h1, p, rfl, h3⟩ | ⟨pre, h1, p, rfl, h3⟩⟩
    · exact ⟨he, .inl ⟨p, h1, h3⟩⟩
    · exact ⟨he, .inr ⟨p, h1, h3⟩⟩

theorem memS_all {M : Nat} {hs : List Nat} (hc : Canon hs (M / 2 ^ 64)) (hl : hs.length ≤ 63) : memS M (64 * (1 + hs.length)) = memS M 4096 := by
  have hlt : M < 2 ^ (64 * (1 + hs.length)) := by
    have h1 := hc.lt
    rw [show 64 * (1 + hs.length) = 64 * hs.length + 64 by omega, Nat.pow_add]
    exact (Nat.div_lt_iff_lt_mul (Nat.pow_pos (by omega))).1 h1
  have := memS_skip (M := M) (a := 64 * (1 + hs.length)) (4096 - 64 * (1 + hs.length)) fun i h1 _ => Nat.testBit_lt_two_pow (Nat.lt_of_lt_of_le hlt (Nat.pow_le_pow_right (by omega) h1))
  rw [show 64 * (1 + hs.length) + (4096 - 64 * (1 + hs.length)) = 4096 by omega] at this
  exact this.symm

set_option maxRecDepth 100000 in
theorem all_any (w : World) (lo : Nat) (va : Option Addr) (n vc : Nat) :
    Calls Tryd.prog 15 #[.agg #[.int .u64 lo, .slice va n vc]] w fun e w' => e = .returned (.func (.func 43) #[] #[.pointer (some ⟨w.heap.size, 0, none⟩)]) ∧ w' = w.alloc (.cells #[.int .u64 lo, .slice va n vc] 27) := by
  go_enter Tryd.func15, Tryd.ntmps15
  go_wp2_with fail
  go_ret
  exact ⟨rfl, rfl⟩

/-- The set's box behind All. -/
theorem allAt_new {w : World} {M : Nat} {va : Option Addr} {vc : Nat} {hs : List Nat} {k : Nat} (hw : Words w (.slice va k vc) hs) (hc : Canon hs (M / 2 ^ 64)) (hT : Tz w) :
    AllAt (w.alloc (.cells #[.int .u64 (M % 2 ^ 64 : Nat), .slice va k vc] 27)) w.heap.size M (.slice va k vc) hs :=
  ⟨by go_simp, by go_simp, hw.kept (Kept.alloc (fun _ => False) _ _) (fun _ _ h => h), hc, hT.kept (Kept.alloc (fun _ => False) _ _) (fun h => h)⟩

set_option maxRecDepth 100000 in
set_option maxHeartbeats 3200000 in
theorem list_any (w : World) (v : Value) (M : Nat) (h : SetV w v M) (hS : Small M) (hT : Tz w) :
    Calls Tryd.prog 17 #[v] w fun e w' => ∃ u, e = .returned u ∧ w'.ownsRow 0 3 1 u (memS M 4096).length ((memS M 4096).map (Value.int .i64)) ∧ (∀ k, u.ownBlock = some k → w.heap.size ≤ k) ∧ Kept (fun _ => False) w w' := by
  obtain ⟨i0, hi, hz0, hz1, hz2⟩ := info_parts info_int9
  obtain ⟨hv, hs, rfl, hw, hc, -⟩ := h.ex
  have hsm := hc.small hS
  have hall := memS_all hc hsm
  obtain ⟨va, vc, hf, -, -⟩ := words_form hw
  subst hf
  have hLN := fun (W : World) (k : Kept (fun _ => False) w W) => len_any W _ M _ hs rfl (hw.kept k (fun _ _ h => h)) hc hsm
  have hlen : lenS M hs ≤ 10000 := by
    have h1 := popS_le (M % 2 ^ 64)
    have h2 := pop_bound hs
    unfold lenS; omega
  have hml := memS_le M 4096
  obtain ⟨L, hL⟩ : ∃ L, L = memS M 4096 := ⟨_, rfl⟩
  obtain ⟨c, hcc⟩ : ∃ c, c = lenS M hs := ⟨_, rfl⟩
  rw [← hcc] at hLN hlen
  have hwlt := hw.lt
  have hglt := hT.lt
  have HSEQ : Hid (∀ (W : World) (B : Nat) (va0 : Option Addr) (vc0 : Nat), AllAt W B M (.slice va hs.length vc) hs → w.heap.size ≤ B → B < W.heap.size → (∀ g, va0 = some g → w.heap.size ≤ g.block ∧ g.block ≠ B ∧ g = ⟨g.block, 0, none⟩) → W.ownsRow 0 3 1 (.slice va0 0 vc0) 0 [] → w.heap.size ≤ W.heap.size →
      Calls Tryd.prog 47 #[.slice va0 0 vc0, .func (.func 43) #[] #[.pointer (some ⟨B, 0, none⟩)]] W fun e W' => ∃ u, e = .returned u ∧ W'.ownsRow 0 3 1 u L.length (L.map (Value.int .i64)) ∧ RowAt (.slice va0 0 vc0) W.heap.size u ∧ Kept (blk (.slice va0 0 vc0)) W W') := by
    intro W B va0 vc0 hA hB hB2 hva hrow hsz
    have hblk : ∀ k, blk (.slice va0 0 vc0) k → w.heap.size ≤ k ∧ k ≠ B := fun k hk => by
      cases va0 with
      | none => simp [blk, Value.ownBlock] at hk
      | some g =>
        obtain ⟨e1, e2, e3⟩ := hva g rfl
        have : g.block = k := by
          rw [e3] at hk
          simpa [blk, Value.ownBlock] using hk
        subst this
        exact ⟨e1, e2⟩
    have := appendSeq_any #[.pointer (some ⟨B, 0, none⟩)] L va0 vc0 W (fun S M' hM hS => by
      rw [hL, ← hall]
      refine all_stops S M' B M va vc hs W hA hsm (by omega) (fun hs2 => ?_) (fun k hk => ⟨by have := hwlt k hk; omega, fun hs2 => ?_⟩) (by omega) (fun hs2 => ?_)
      · rcases hS _ hs2 with h | h
        · omega
        · exact (hblk _ h).2 rfl
      · have h1 := hwlt k hk
        rcases hS _ hs2 with h | h
        · omega
        · have := (hblk _ h).1; omega
      · rcases hS _ hs2 with h | h
        · omega
        · have := (hblk _ h).1; omega) (by rw [hL]; omega) hrow
    exact this
  rw [← hL]
  have HLN := Lib.hid hLN; have HT := Lib.hid hT; have HW := Lib.hid hw; have HCN := Lib.hid hc
  clear h hS hall hw hc hLN hL hcc hml hwlt hT
  have HAL := Lib.hid (fun (W : World) (k : Kept (fun _ => False) w W) => allAt_new (M := M) (HW.out.kept k (fun _ _ h => h)) HCN.out (HT.out.kept k (fun h => h)))
  generalize hs.length = n at *
  obtain ⟨lo, hlo⟩ : ∃ lo, lo = M % 2 ^ 64 := ⟨_, rfl⟩
  rw [← hlo] at HLN HAL ⊢
  clear hlo
  go_enter Tryd.func17, Tryd.ntmps17
  have KA := Lib.hid (Kept.alloc (fun _ => False) w (.cells #[.int .u64 lo, .slice va n vc] 27))
  have hbx : Hid (∀ W, Kept (fun _ => False) (w.alloc (.cells #[.int .u64 lo, .slice va n vc] 27)) W → W.cell? ⟨w.heap.size, 0, none⟩ = some (.int .u64 lo) ∧ W.cell? ⟨w.heap.size, 1, none⟩ = some (.slice va n vc) ∧ w.heap.size < W.heap.size) := fun W hk => box_cells hk (fun h => h)
  go_wp2_with fail
  generalize w.alloc (.cells #[.int .u64 lo, .slice va n vc] 27) = wA at KA hbx ⊢
  have D0 := Lib.hid ((Kept.refl (fun _ => False) wA).drew)
  refine wp_region_held_drew (S := fun w' => w'.cell? ⟨w.heap.size, 0, none⟩ = some (.int .u64 lo) ∧ w'.cell? ⟨w.heap.size, 1, none⟩ = some (.slice va n vc)) (by kernel_rfl) ⟨(hbx.out _ D0.out).1, (hbx.out _ D0.out).2.1⟩ (fun _ => ?_)
  refine wpAnyH_take (i := 0) (v := .agg #[.int .u64 lo, .slice va n vc]) rfl (by kernel_rfl) (by kernel_rfl) (by kernel_rfl) (fun _ _ _ h => h) (Or.inl ⟨by simp [Region.wanted, yielded], fun W hS => by have h1 := hS.1; have h2 := hS.2; go_simp⟩) ⟨(hbx.out _ D0.out).1, (hbx.out _ D0.out).2.1⟩ ?_
  try (simp only [Act.put, List.getElem_toArray, List.getElem_cons_succ, List.getElem_cons_zero, List.setIfInBounds_toArray, List.set_cons_zero, List.set_cons_succ])
  refine wpAnyH_take (i := 3) (v := .agg #[.int .u64 lo, .slice va n vc]) rfl (by kernel_rfl) (by kernel_rfl) (by kernel_rfl) (fun _ _ _ h => h) (Or.inl ⟨by simp [Region.wanted, yielded], fun W hS => by have h1 := hS.1; have h2 := hS.2; go_simp⟩) ⟨(hbx.out _ D0.out).1, (hbx.out _ D0.out).2.1⟩ ?_
  try (simp only [Act.put, List.getElem_toArray, List.getElem_cons_succ, List.getElem_cons_zero, List.setIfInBounds_toArray, List.set_cons_zero, List.set_cons_succ])
  refine wpAnyH_ready (rs := [1]) (by kernel_rfl) (by simp) ?_
  refine AllReadyH.cons (o := _) rfl (fun K hK => ?_) AllReadyH.nil
  try (rw [if_pos (by simp [Region.wanted, yielded])])
  go_simp
  go_at_call 48
  refine (HLN.out wA.drew (KA.out.then D0.out)).mono ?_
  rintro e w1 ⟨rfl, k1⟩; have D1 := Lib.hid (D0.out.then k1); clear k1
  go_wp2_with fail
  refine hK.out _ _ ⟨(hbx.out _ D1.out).1, (hbx.out _ D1.out).2.1⟩ (fun _ => ?_)
  clear hK K
  try (simp only [Act.put, List.getElem_toArray, List.getElem_cons_succ, List.getElem_cons_zero, List.setIfInBounds_toArray, List.set_cons_zero, List.set_cons_succ])
  have hsz1 := (KA.out.then D1.out).size
  refine wpAnyH_ready (rs := [2, 4]) (by kernel_rfl) (by simp) ?_
  refine AllReadyH.cons (o := _) rfl (fun K hK => ?_) (AllReadyH.cons (o := _) rfl (fun K hK => ?_) AllReadyH.nil)
  · obtain ⟨w2, hmk, hown, hgr⟩ := run_make_own (P := Tryd.prog) w1 0 22 3 i0 (.int .i64 0) 1 Tryd.underlying22 hi hz0 hz1 .i64 .i64 c (by rw [hz2]; omega) (by unfold maxLen; omega) (Nat.zero_le _)
    have D2 := Lib.hid (D1.out.then (Kept.ofGrown (S := fun _ => False) hgr (fun k e => by cases e)))
    have HOWN := Lib.hid hown; have HGR := Lib.hid hgr
    clear hown hgr
    try (rw [if_pos (by simp [Region.wanted, yielded])])
    go_simp
    refine hK.out _ _ ⟨(hbx.out _ D2.out).1, (hbx.out _ D2.out).2.1⟩ (fun _ => ?_)
    clear hK K hmk
    try (simp only [Act.put, List.getElem_toArray, List.getElem_cons_succ, List.getElem_cons_zero, List.setIfInBounds_toArray, List.set_cons_zero, List.set_cons_succ])
    refine wpAnyH_ready (rs := [4]) (by kernel_rfl) (by simp) ?_
    refine AllReadyH.cons (o := _) rfl (fun K hK => ?_) AllReadyH.nil
    try (rw [if_pos (by simp [Region.wanted, yielded])])
    try (rw [if_pos (by simp [Region.wanted, yielded])])
    go_simp
    go_at_call 15
    refine (all_any w2 lo va n vc).mono ?_
    rintro e w3 ⟨rfl, hwal⟩
    have hAt := HAL.out w2 (KA.out.then D2.out)
    have hkal : Kept (fun _ => False) w2 w3 := by rw [hwal]; exact Kept.alloc _ _ _
    have HSZL : Hid (w3.heap.size = w2.heap.size + 1) := by rw [hwal]; show _ = _; simp
    rw [← hwal] at hAt
    have HAT := Lib.hid hAt; have D3 := Lib.hid (D2.out.then hkal); have HKAL := Lib.hid hkal
    clear hwal hAt hkal
    go_wp2_with fail
    refine hK.out _ _ ⟨(hbx.out _ D3.out).1, (hbx.out _ D3.out).2.1⟩ (fun _ => ?_)
    clear hK K
    try (simp only [Act.put, List.getElem_toArray, List.getElem_cons_succ, List.getElem_cons_zero, List.setIfInBounds_toArray, List.set_cons_zero, List.set_cons_succ])
    have hsz2 := D2.out.size
    have hszal := HSZL.out
    have HAT2 := HAT.out
    have hB1 : w.heap.size ≤ w2.heap.size := (KA.out.then D2.out).size
    have hB2 : w2.heap.size < w3.heap.size := by omega
    have hB3 : w.heap.size ≤ w1.heap.size := hsz1
    have hgw : w1.heap.size < w2.heap.size := (HOWN.out.lt w1.heap.size (by simp [Value.ownBlock])).2
    have hB4 : w1.heap.size ≠ w2.heap.size := by omega
    have hB5 : w.heap.size ≤ w3.heap.size := by omega
    have hxA := KA.out.size
    have hwA1 := D1.out.size
    have HROW := HKAL.out.owns HOWN.out (fun _ _ h => h)
    clear hszal
    have HSQ := Lib.hid (HSEQ.out w3 w2.heap.size (some ⟨w1.heap.size, 0, none⟩) c HAT2 hB1 hB2 (fun g hg => by cases hg; exact ⟨hB3, hB4, rfl⟩) HROW hB5)
    clear HAT2 HROW
    refine wpAnyH_ready (rs := [5]) (by kernel_rfl) (by simp) ?_
    refine AllReadyH.cons (o := _) rfl (fun K hK => ?_) AllReadyH.nil
    try (rw [if_pos (by simp [Region.wanted, yielded])])
    go_simp
    go_at_call 47
    refine (HSQ.out).mono ?_
    rintro e w4 ⟨u, rfl, hu, hat4, k4⟩; have HU := Lib.hid hu; have HAT4 := Lib.hid hat4; have HK4 := Lib.hid k4; have D4 : Hid (Kept (fun _ => False) wA w4) := D3.out.trans k4 (fun _ _ h => h) (fun i hi e => by have e2 : w1.heap.size = i := (by simpa [blk, Value.ownBlock] using e); omega); clear hu hat4 k4
    go_wp2_with fail
    refine hK.out _ _ ⟨(hbx.out _ D4.out).1, (hbx.out _ D4.out).2.1⟩ (fun _ => ?_)
    clear hK K
    try (simp only [Act.put, List.getElem_toArray, List.getElem_cons_succ, List.getElem_cons_zero, List.setIfInBounds_toArray, List.set_cons_zero, List.set_cons_succ])
    refine wpAnyH_take (i := 6) (v := u) rfl (by kernel_rfl) (by kernel_rfl) (by kernel_rfl) (fun _ _ _ h => h) (Or.inl ⟨by simp [Region.wanted, yielded], fun W hS => by go_simp⟩) ⟨(hbx.out _ D4.out).1, (hbx.out _ D4.out).2.1⟩ ?_
    try (simp only [Act.put, List.getElem_toArray, List.getElem_cons_succ, List.getElem_cons_zero, List.setIfInBounds_toArray, List.set_cons_zero, List.set_cons_succ])
    refine wpAnyH_done (by kernel_rfl) ?_ _
    go_wp2_with fail
    go_ret
    exact ⟨u, rfl, HU.out, fun k hk => (HAT4.out k hk).elim (fun e => by have e2 : w1.heap.size = k := (by simpa [blk, Value.ownBlock] using e); omega) (fun e => by omega), KA.out.then D4.out⟩
  · try (rw [if_pos (by simp [Region.wanted, yielded])])
    go_simp
    go_at_call 15
    refine (all_any w1 lo va n vc).mono ?_
    rintro e w2 ⟨rfl, hwal⟩
    have hAt := HAL.out w1 (KA.out.then D1.out)
    have hkal : Kept (fun _ => False) w1 w2 := by rw [hwal]; exact Kept.alloc _ _ _
    have HSZL : Hid (w2.heap.size = w1.heap.size + 1) := by rw [hwal]; show _ = _; simp
    rw [← hwal] at hAt
    have HAT := Lib.hid hAt; have D2 := Lib.hid (D1.out.then hkal); have HKAL := Lib.hid hkal
    clear hwal hAt hkal
    go_wp2_with fail
    refine hK.out _ _ ⟨(hbx.out _ D2.out).1, (hbx.out _ D2.out).2.1⟩ (fun _ => ?_)
    clear hK K
    try (simp only [Act.put, List.getElem_toArray, List.getElem_cons_succ, List.getElem_cons_zero, List.setIfInBounds_toArray, List.set_cons_zero, List.set_cons_succ])
    refine wpAnyH_ready (rs := [2]) (by kernel_rfl) (by simp) ?_
    refine AllReadyH.cons (o := _) rfl (fun K hK => ?_) AllReadyH.nil
    try (rw [if_pos (by simp [Region.wanted, yielded])])
    obtain ⟨w3, hmk, hown, hgr⟩ := run_make_own (P := Tryd.prog) w2 0 22 3 i0 (.int .i64 0) 1 Tryd.underlying22 hi hz0 hz1 .i64 .i64 c (by rw [hz2]; omega) (by unfold maxLen; omega) (Nat.zero_le _)
    have D3 := Lib.hid (D2.out.then (Kept.ofGrown (S := fun _ => False) hgr (fun k e => by cases e)))
    have HOWN := Lib.hid hown; have HGR := Lib.hid hgr
    clear hown hgr
    try (rw [if_pos (by simp [Region.wanted, yielded])])
    go_simp
    refine hK.out _ _ ⟨(hbx.out _ D3.out).1, (hbx.out _ D3.out).2.1⟩ (fun _ => ?_)
    clear hK K hmk
    try (simp only [Act.put, List.getElem_toArray, List.getElem_cons_succ, List.getElem_cons_zero, List.setIfInBounds_toArray, List.set_cons_zero, List.set_cons_succ])
    have hsz2 := D2.out.size
    have hszal := HSZL.out
    have HAT2 := HAT.out.on (Kept.ofGrown (S := fun _ => False) HGR.out (fun k e => by cases e))
    have hB1 : w.heap.size ≤ w1.heap.size := hsz1
    have hgw : w2.heap.size < w3.heap.size := (HOWN.out.lt w2.heap.size (by simp [Value.ownBlock])).2
    have hB2 : w1.heap.size < w3.heap.size := by omega
    have hB3 : w.heap.size ≤ w2.heap.size := by omega
    have hB4 : w2.heap.size ≠ w1.heap.size := by omega
    have hB5 : w.heap.size ≤ w3.heap.size := by omega
    have hxA := KA.out.size
    have hwA1 := D1.out.size
    have HROW := HOWN.out
    clear hszal
    have HSQ := Lib.hid (HSEQ.out w3 w1.heap.size (some ⟨w2.heap.size, 0, none⟩) c HAT2 hB1 hB2 (fun g hg => by cases hg; exact ⟨hB3, hB4, rfl⟩) HROW hB5)
    clear HAT2 HROW
    refine wpAnyH_ready (rs := [5]) (by kernel_rfl) (by simp) ?_
    refine AllReadyH.cons (o := _) rfl (fun K hK => ?_) AllReadyH.nil
    try (rw [if_pos (by simp [Region.wanted, yielded])])
    go_simp
    go_at_call 47
    refine (HSQ.out).mono ?_
    rintro e w4 ⟨u, rfl, hu, hat4, k4⟩; have HU := Lib.hid hu; have HAT4 := Lib.hid hat4; have HK4 := Lib.hid k4; have D4 : Hid (Kept (fun _ => False) wA w4) := D3.out.trans k4 (fun _ _ h => h) (fun i hi e => by have e2 : w2.heap.size = i := (by simpa [blk, Value.ownBlock] using e); omega); clear hu hat4 k4
    go_wp2_with fail
    refine hK.out _ _ ⟨(hbx.out _ D4.out).1, (hbx.out _ D4.out).2.1⟩ (fun _ => ?_)
    clear hK K
    try (simp only [Act.put, List.getElem_toArray, List.getElem_cons_succ, List.getElem_cons_zero, List.setIfInBounds_toArray, List.set_cons_zero, List.set_cons_succ])
    refine wpAnyH_take (i := 6) (v := u) rfl (by kernel_rfl) (by kernel_rfl) (by kernel_rfl) (fun _ _ _ h => h) (Or.inl ⟨by simp [Region.wanted, yielded], fun W hS => by go_simp⟩) ⟨(hbx.out _ D4.out).1, (hbx.out _ D4.out).2.1⟩ ?_
    try (simp only [Act.put, List.getElem_toArray, List.getElem_cons_succ, List.getElem_cons_zero, List.setIfInBounds_toArray, List.set_cons_zero, List.set_cons_succ])
    refine wpAnyH_done (by kernel_rfl) ?_ _
    go_wp2_with fail
    go_ret
    exact ⟨u, rfl, HU.out, fun k hk => (HAT4.out k hk).elim (fun e => by have e2 : w2.heap.size = k := (by simpa [blk, Value.ownBlock] using e); omega) (fun e => by omega), KA.out.then D4.out⟩
end Go.Proofs.YtnmcihfegbdipaaDoor
/-
  arbaclaw02.agree with two readers that stand on the same bytes: both give the same, and stand on the same bytes again.
-/
namespace Go.Proofs.YtnmcihfegbdipaaDoor
open Go.RowKit
set_option linter.unusedVariables false
set_option linter.unusedSimpArgs false


theorem drop_keep {xs : List Nat} (h : ∀ b ∈ xs, b < 256) (hl : xs.length ≤ 300) (n : Nat) : (∀ b ∈ xs.drop n, b < 256) ∧ (xs.drop n).length ≤ 300 := ⟨fun b hb => h b (List.mem_of_mem_drop hb), by simp; omega⟩
theorem boundedS_keep {xs : List Nat} (h : ∀ b ∈ xs, b < 256) (hl : xs.length ≤ 300) (most : Nat) (a e : Int) : (∀ b ∈ (boundedS xs most a e).2.1, b < 256) ∧ (boundedS xs most a e).2.1.length ≤ 300 := by
  unfold boundedS
  split
  · exact ⟨h, hl⟩
  · split
    · exact ⟨h, hl⟩
    · exact drop_keep h hl _
theorem uintS_keep {xs : List Nat} (h : ∀ b ∈ xs, b < 256) (hl : xs.length ≤ 300) (most : Nat) (e : Int) : (∀ b ∈ (uintS xs most e).2.1, b < 256) ∧ (uintS xs most e).2.1.length ≤ 300 := by
  unfold uintS
  split
  · exact boundedS_keep h hl _ _ _
  · exact ⟨h, hl⟩
theorem numI_keep {xs : List Nat} (h : ∀ b ∈ xs, b < 256) (hl : xs.length ≤ 300) (most e : Int) : (∀ b ∈ (numI xs most e).2.1, b < 256) ∧ (numI xs most e).2.1.length ≤ 300 := by
  unfold numI
  split
  · exact ⟨h, hl⟩
  · exact uintS_keep h hl _ _
theorem cntI_keep {xs : List Nat} (h : ∀ b ∈ xs, b < 256) (hl : xs.length ≤ 300) (most e : Int) : (∀ b ∈ (cntI xs most e).2.1, b < 256) ∧ (cntI xs most e).2.1.length ≤ 300 := by
  unfold cntI
  split
  · exact ⟨h, hl⟩
  · unfold cntG
    split
    · exact boundedS_keep h hl _ _ _
    · exact ⟨h, hl⟩
theorem intS_keep {xs : List Nat} (h : ∀ b ∈ xs, b < 256) (hl : xs.length ≤ 300) (lo hi e : Int) : (∀ b ∈ (intS xs lo hi e).2.1, b < 256) ∧ (intS xs lo hi e).2.1.length ≤ 300 := by
  unfold intS
  repeat' split
  all_goals first
    | exact ⟨h, hl⟩
    | exact drop_keep h hl _
theorem pieceS_keep {xs : List Nat} (h : ∀ b ∈ xs, b < 256) (hl : xs.length ≤ 300) (most e : Int) : (∀ b ∈ (pieceS xs most e).2.1, b < 256) ∧ (pieceS xs most e).2.1.length ≤ 300 ∧ (pieceS xs most e).1.length ≤ 300 := by
  refine ⟨(pieceS_byte most e h).2, ?_⟩
  unfold pieceS
  repeat' split
  all_goals first
    | exact ⟨hl, by simp⟩
    | exact ⟨by simp; omega, by simp; omega⟩
theorem rawS_keep {xs : List Nat} (h : ∀ b ∈ xs, b < 256) (hl : xs.length ≤ 300) (n e : Int) : (∀ b ∈ (rawS xs n e).2.1, b < 256) ∧ (rawS xs n e).2.1.length ≤ 300 ∧ (∀ b ∈ (rawS xs n e).1, b < 256) := by
  unfold rawS
  repeat' split
  all_goals first
    | exact ⟨h, hl, by simp⟩
    | exact ⟨fun b hb => h b (List.mem_of_mem_drop hb), by simp; omega, fun b hb => h b (List.mem_of_mem_take hb)⟩
theorem flagS_keep {xs : List Nat} (h : ∀ b ∈ xs, b < 256) (hl : xs.length ≤ 300) (e : Int) : (∀ b ∈ (flagS xs e).2.1, b < 256) ∧ (flagS xs e).2.1.length ≤ 300 := by
  unfold flagS
  split
  · exact ⟨h, hl⟩
  · split
    · exact ⟨h, hl⟩
    · split
      · exact ⟨h, hl⟩
      · exact ⟨fun b hb => h b (List.mem_cons_of_mem _ hb), by simp at hl ⊢; omega⟩

/-- Two readers, the program's and the reference's, that stand on the same bytes. -/
structure Two (W : World) (rb mb : Nat) (v u : Value) (xs : List Nat) (err : Int) : Prop where
  r : Rd W rb v xs err
  m : Rd W mb u xs err
  ne : rb ≠ mb
  va : v.ownBlock ≠ some mb
  ua : u.ownBlock ≠ some rb
  byte : ∀ b ∈ xs, b < 256
  len : xs.length ≤ 300
/-- What a call of both leaves. -/
def TwoRes (w w' : World) (rb mb : Nat) (v u : Value) : Prop := ∃ v' u' xs' err', Two w' rb mb v' u' xs' err' ∧ v'.ownBlock = v.ownBlock ∧ u'.ownBlock = u.ownBlock ∧ Kept (fun k => k = rb ∨ k = mb) w w'
abbrev RM (rb mb : Nat) : Nat → Prop := fun k => k = rb ∨ k = mb
theorem rm_r {rb mb : Nat} {a b : World} (h : Kept (fun k => k = rb) a b) : Kept (RM rb mb) a b := ⟨h.os, h.tape, h.output, h.size, fun k hk hn => h.block k hk (fun e => hn (Or.inl e))⟩
theorem rm_m {rb mb : Nat} {a b : World} (h : Kept (fun k => k = mb) a b) : Kept (RM rb mb) a b := ⟨h.os, h.tape, h.output, h.size, fun k hk hn => h.block k hk (fun e => hn (Or.inr e))⟩
theorem rm_0 {rb mb : Nat} {a b : World} (h : Kept (fun _ => False) a b) : Kept (RM rb mb) a b := ⟨h.os, h.tape, h.output, h.size, fun k hk hn => h.block k hk (fun e => e.elim)⟩
theorem rm_t {rb mb : Nat} {a b c : World} (h : Kept (RM rb mb) a b) (k : Kept (RM rb mb) b c) : Kept (RM rb mb) a c := h.trans k (fun _ _ h => h) (fun _ _ h => h)
/-- The two calls, one behind the other. -/
theorem two_res {w w0 w1 w2 : World} {rb mb : Nat} {v u v1 u1 : Value} {xs ys : List Nat} {err e1 : Int} (h : Two w rb mb v u xs err) (k0 : Kept (fun _ => False) w w0) (hr : Rd w1 rb v1 ys e1) (hv : v1.ownBlock = v.ownBlock) (k1 : Kept (fun k => k = rb) w0 w1)
    (hm : Rd w2 mb u1 ys e1) (hu : u1.ownBlock = u.ownBlock) (k2 : Kept (fun k => k = mb) w1 w2) (hby : ∀ b ∈ ys, b < 256) (hl : ys.length ≤ 300) : TwoRes w w2 rb mb v u :=
  ⟨v1, u1, ys, e1, ⟨hr.kept k2 h.ne (fun k hk e => h.va (by rw [← hv, hk, e])), hm, h.ne, by rw [hv]; exact h.va, by rw [hu]; exact h.ua, hby, hl⟩, hv, hu, rm_t (rm_t (rm_0 k0) (rm_r k1)) (rm_m k2)⟩
theorem two_m1 {w w0 w1 : World} {rb mb : Nat} {v u : Value} {xs : List Nat} {err : Int} (h : Two w rb mb v u xs err) (k0 : Kept (fun _ => False) w w0) (k1 : Kept (fun k => k = rb) w0 w1) : Rd w1 mb u xs err :=
  (h.m.kept k0 (fun h => h) (fun _ _ h => h)).kept k1 (fun e => h.ne e.symm) (fun k hk e => h.ua (by rw [hk, e]))
theorem two_r0 {w w0 : World} {rb mb : Nat} {v u : Value} {xs : List Nat} {err : Int} (h : Two w rb mb v u xs err) (k0 : Kept (fun _ => False) w w0) : Rd w0 rb v xs err := h.r.kept k0 (fun h => h) (fun _ _ h => h)

theorem reads_str2 {w : World} {v : Value} {xs : List Nat} (h : Reads w v xs) : (convert 38 9 v).run Tryd.prog w = .ok (.string (strOf xs)) w := reads_str h

/-- What 'agree' answers, and what it leaves. -/
def AgreeAns (w : World) (rb mb k : Nat) (v u : Value) (m lo : Int) : Prop :=
  Calls Tryd.prog 23 #[.pointer (some ⟨rb, 0, none⟩), .pointer (some ⟨mb, 0, none⟩), .agg #[.int .u8 k, .int .i64 m, .int .i64 lo]] w fun e w' => e = .returned (.bool true) ∧ TwoRes w w' rb mb v u


theorem rset_any (w : World) (rb : Nat) (v : Value) (xs : List Nat) (err most : Int) (h : Rd w rb v xs err) (hby : ∀ b ∈ xs, b < 256) :
    Calls Tryd.prog 73 #[.pointer (some ⟨rb, 0, none⟩), .int .i64 most] w fun e w' => ∃ sv v', e = .returned sv ∧ SetV w' sv (setS xs most err).1 ∧
      Rd w' rb v' (setS xs most err).2.1 (setS xs most err).2.2 ∧ v'.ownBlock = v.ownBlock ∧ Kept (fun k => k = rb) w w' := by
  by_cases he : err = 0
  · subst he
    refine (rset_ok w rb v xs most h hby).mono ?_
    rintro e w' ⟨sv, v', rfl, h1, _, h2, h3, h4⟩
    exact ⟨sv, v', rfl, h1, h2, h3, h4⟩
  · rw [show setS xs most err = (0, xs, err) from if_pos he]
    refine (rset_err w rb v xs err most h he).mono ?_
    rintro e w' ⟨rfl, h1, h2⟩
    exact ⟨_, v, rfl, setv_zero _, h1, rfl, ⟨h2.os, h2.tape, h2.output, h2.size, fun k hk hn => h2.block k hk (fun e => e)⟩⟩
theorem setS_keep {xs : List Nat} (h : ∀ b ∈ xs, b < 256) (hl : xs.length ≤ 300) (most e : Int) : (∀ b ∈ (setS xs most e).2.1, b < 256) ∧ (setS xs most e).2.1.length ≤ 300 ∧ Small (setS xs most e).1 := by
  have hz : Small 0 := fun i hi => Nat.pow_pos (by omega)
  have hp := pieceS_keep h hl 512 0
  have hpb := pieceS_byte 512 0 h
  unfold setS
  repeat' split
  all_goals first
    | exact ⟨h, hl, hz⟩
    | exact ⟨hp.1, hp.2.1, numLE_small _ hpb.1 (by omega)⟩

section
variable (w : World) (rb mb k : Nat) (v u : Value) (xs : List Nat) (err m lo : Int) (h : Two w rb mb v u xs err)

set_option maxRecDepth 100000 in
set_option maxHeartbeats 1600000 in
include h in
theorem agt0 (U : Nat) (hU : IntKind.u64.wrap m = (U : Int)) (hk11 : ((k : Int) % 11) = 0) : AgreeAns w rb mb k v u m lo := by
  have HH := Lib.hid h
  have hlr := h.r.lt; have hlm := h.m.lt
  obtain ⟨wA, hwA⟩ : ∃ wA, wA = w.alloc (.cells #[.int .u8 k, .int .i64 m, .int .i64 lo] 51) := ⟨_, rfl⟩
  have hka : Kept (fun _ => False) w wA := by rw [hwA]; exact Kept.alloc _ _ _
  have HBX : Hid (∀ W, Kept (RM rb mb) wA W → W.cell? ⟨w.heap.size, 0, none⟩ = some (.int .u8 k) ∧ W.cell? ⟨w.heap.size, 1, none⟩ = some (.int .i64 m) ∧ W.cell? ⟨w.heap.size, 2, none⟩ = some (.int .i64 lo)) := fun W hk => by
    have hb : ¬ RM rb mb w.heap.size := fun e => by rcases e with e | e <;> omega
    have hs : w.heap.size < wA.heap.size := by rw [hwA]; simp
    exact ⟨(hk.cell (p := ⟨w.heap.size, 0, none⟩) hs hb).trans (by rw [hwA]; go_simp), (hk.cell (p := ⟨w.heap.size, 1, none⟩) hs hb).trans (by rw [hwA]; go_simp), (hk.cell (p := ⟨w.heap.size, 2, none⟩) hs hb).trans (by rw [hwA]; go_simp)⟩
  have HWA := Lib.hid hwA; have HKA := Lib.hid hka
  clear hwA hka hlr hlm h
  unfold AgreeAns
  go_enter Tryd.func23, Tryd.ntmps23
  go_wp2_with fail
  rw [← HWA.out]
  obtain ⟨b0, b1, b2⟩ := HBX.out wA (Kept.refl _ _)
  have K0 := Lib.hid (HKA.out.drew)
  have KX0 := Lib.hid (show Kept (RM rb mb) wA wA.drew from (Kept.refl _ _).drew)
  go_region_held3 (fun w' => w'.cell? ⟨w.heap.size, 0, none⟩ = some (.int .u8 k) ∧ w'.cell? ⟨w.heap.size, 1, none⟩ = some (.int .i64 m) ∧ w'.cell? ⟨w.heap.size, 2, none⟩ = some (.int .i64 lo))
    (first | exact HBX.out _ KX3.out | exact HBX.out _ KX2.out | exact HBX.out _ KX1.out | exact HBX.out _ KX0.out)
    ((first | (go_at_call 55; with_reducible refine (ruint_any wA.drew rb v xs err U (two_r0 HH.out K0.out) HH.out.byte).mono ?_; rintro e w1 ⟨rfl, v1, hr1, hv1, k1⟩; have Hr1 := Lib.hid hr1; have HV1 := Lib.hid hv1; have K1 := Lib.hid k1; have KX1 := Lib.hid (rm_t KX0.out (rm_r k1)); clear hr1 hv1 k1) | (go_at_call 59; with_reducible refine (muint_any w1 mb u xs err U (two_m1 HH.out K0.out K1.out) HH.out.byte).mono ?_; rintro e w2 ⟨rfl, u2, hm2, hu2, k2⟩; have Hm2 := Lib.hid hm2; have HU2 := Lib.hid hu2; have K2 := Lib.hid k2; have KX2 := Lib.hid (rm_t KX1.out (rm_m k2)); clear hm2 hu2 k2)))
  all_goals
    go_wp2_with fail
    go_ret
    exact ⟨by simp, two_res HH.out K0.out Hr1.out HV1.out K1.out Hm2.out HU2.out K2.out (uintS_keep HH.out.byte HH.out.len _ _).1 (uintS_keep HH.out.byte HH.out.len _ _).2⟩

set_option maxRecDepth 100000 in
set_option maxHeartbeats 1600000 in
include h in
theorem agt1 (hm : m < 9223372036854775808) (hk11 : ((k : Int) % 11) = 1) : AgreeAns w rb mb k v u m lo := by
  have HH := Lib.hid h
  have hlr := h.r.lt; have hlm := h.m.lt
  obtain ⟨wA, hwA⟩ : ∃ wA, wA = w.alloc (.cells #[.int .u8 k, .int .i64 m, .int .i64 lo] 51) := ⟨_, rfl⟩
  have hka : Kept (fun _ => False) w wA := by rw [hwA]; exact Kept.alloc _ _ _
  have HBX : Hid (∀ W, Kept (RM rb mb) wA W → W.cell? ⟨w.heap.size, 0, none⟩ = some (.int .u8 k) ∧ W.cell? ⟨w.heap.size, 1, none⟩ = some (.int .i64 m) ∧ W.cell? ⟨w.heap.size, 2, none⟩ = some (.int .i64 lo)) := fun W hk => by
    have hb : ¬ RM rb mb w.heap.size := fun e => by rcases e with e | e <;> omega
    have hs : w.heap.size < wA.heap.size := by rw [hwA]; simp
    exact ⟨(hk.cell (p := ⟨w.heap.size, 0, none⟩) hs hb).trans (by rw [hwA]; go_simp), (hk.cell (p := ⟨w.heap.size, 1, none⟩) hs hb).trans (by rw [hwA]; go_simp), (hk.cell (p := ⟨w.heap.size, 2, none⟩) hs hb).trans (by rw [hwA]; go_simp)⟩
  have HWA := Lib.hid hwA; have HKA := Lib.hid hka
  clear hwA hka hlr hlm h
  unfold AgreeAns
  go_enter Tryd.func23, Tryd.ntmps23
  go_wp2_with fail
  rw [← HWA.out]
  obtain ⟨b0, b1, b2⟩ := HBX.out wA (Kept.refl _ _)
  have K0 := Lib.hid (HKA.out.drew)
  have KX0 := Lib.hid (show Kept (RM rb mb) wA wA.drew from (Kept.refl _ _).drew)
  have HM := Lib.hid hm
  clear hm
  go_region_held3 (fun w' => w'.cell? ⟨w.heap.size, 0, none⟩ = some (.int .u8 k) ∧ w'.cell? ⟨w.heap.size, 1, none⟩ = some (.int .i64 m) ∧ w'.cell? ⟨w.heap.size, 2, none⟩ = some (.int .i64 lo))
    (first | exact HBX.out _ KX3.out | exact HBX.out _ KX2.out | exact HBX.out _ KX1.out | exact HBX.out _ KX0.out)
    ((first | (go_at_call 60; with_reducible refine (wnumber_any wA.drew rb v xs err m HM.out (two_r0 HH.out K0.out) HH.out.byte).mono ?_; rintro e w1 ⟨rfl, v1, hr1, hv1, k1⟩; have Hr1 := Lib.hid hr1; have HV1 := Lib.hid hv1; have K1 := Lib.hid k1; have KX1 := Lib.hid (rm_t KX0.out (rm_r k1)); clear hr1 hv1 k1) | (go_at_call 61; with_reducible refine (mnumber_any w1 mb u xs err m HM.out (two_m1 HH.out K0.out K1.out) HH.out.byte).mono ?_; rintro e w2 ⟨rfl, u2, hm2, hu2, k2⟩; have Hm2 := Lib.hid hm2; have HU2 := Lib.hid hu2; have K2 := Lib.hid k2; have KX2 := Lib.hid (rm_t KX1.out (rm_m k2)); clear hm2 hu2 k2)))
  all_goals
    go_wp2_with fail
    go_ret
    exact ⟨by simp, two_res HH.out K0.out Hr1.out HV1.out K1.out Hm2.out HU2.out K2.out (numI_keep HH.out.byte HH.out.len _ _).1 (numI_keep HH.out.byte HH.out.len _ _).2⟩

set_option maxRecDepth 100000 in
set_option maxHeartbeats 1600000 in
include h in
theorem agt2  (hk11 : ((k : Int) % 11) = 2) : AgreeAns w rb mb k v u m lo := by
  have HH := Lib.hid h
  have hlr := h.r.lt; have hlm := h.m.lt
  obtain ⟨wA, hwA⟩ : ∃ wA, wA = w.alloc (.cells #[.int .u8 k, .int .i64 m, .int .i64 lo] 51) := ⟨_, rfl⟩
  have hka : Kept (fun _ => False) w wA := by rw [hwA]; exact Kept.alloc _ _ _
  have HBX : Hid (∀ W, Kept (RM rb mb) wA W → W.cell? ⟨w.heap.size, 0, none⟩ = some (.int .u8 k) ∧ W.cell? ⟨w.heap.size, 1, none⟩ = some (.int .i64 m) ∧ W.cell? ⟨w.heap.size, 2, none⟩ = some (.int .i64 lo)) := fun W hk => by
    have hb : ¬ RM rb mb w.heap.size := fun e => by rcases e with e | e <;> omega
    have hs : w.heap.size < wA.heap.size := by rw [hwA]; simp
    exact ⟨(hk.cell (p := ⟨w.heap.size, 0, none⟩) hs hb).trans (by rw [hwA]; go_simp), (hk.cell (p := ⟨w.heap.size, 1, none⟩) hs hb).trans (by rw [hwA]; go_simp), (hk.cell (p := ⟨w.heap.size, 2, none⟩) hs hb).trans (by rw [hwA]; go_simp)⟩
  have HWA := Lib.hid hwA; have HKA := Lib.hid hka
  clear hwA hka hlr hlm h
  unfold AgreeAns
  go_enter Tryd.func23, Tryd.ntmps23
  go_wp2_with fail
  rw [← HWA.out]
  obtain ⟨b0, b1, b2⟩ := HBX.out wA (Kept.refl _ _)
  have K0 := Lib.hid (HKA.out.drew)
  have KX0 := Lib.hid (show Kept (RM rb mb) wA wA.drew from (Kept.refl _ _).drew)
  go_region_held3 (fun w' => w'.cell? ⟨w.heap.size, 0, none⟩ = some (.int .u8 k) ∧ w'.cell? ⟨w.heap.size, 1, none⟩ = some (.int .i64 m) ∧ w'.cell? ⟨w.heap.size, 2, none⟩ = some (.int .i64 lo))
    (first | exact HBX.out _ KX3.out | exact HBX.out _ KX2.out | exact HBX.out _ KX1.out | exact HBX.out _ KX0.out)
    ((first | (go_at_call 62; with_reducible refine (rint_any wA.drew rb v xs err lo m (two_r0 HH.out K0.out) HH.out.byte).mono ?_; rintro e w1 ⟨rfl, v1, hr1, hv1, k1⟩; have Hr1 := Lib.hid hr1; have HV1 := Lib.hid hv1; have K1 := Lib.hid k1; have KX1 := Lib.hid (rm_t KX0.out (rm_r k1)); clear hr1 hv1 k1) | (go_at_call 63; with_reducible refine (mint_any w1 mb u xs err lo m (two_m1 HH.out K0.out K1.out) HH.out.byte).mono ?_; rintro e w2 ⟨rfl, u2, hm2, hu2, k2⟩; have Hm2 := Lib.hid hm2; have HU2 := Lib.hid hu2; have K2 := Lib.hid k2; have KX2 := Lib.hid (rm_t KX1.out (rm_m k2)); clear hm2 hu2 k2)))
  all_goals
    go_wp2_with fail
    go_ret
    exact ⟨by simp, two_res HH.out K0.out Hr1.out HV1.out K1.out Hm2.out HU2.out K2.out (intS_keep HH.out.byte HH.out.len _ _ _).1 (intS_keep HH.out.byte HH.out.len _ _ _).2⟩

set_option maxRecDepth 100000 in
set_option maxHeartbeats 1600000 in
include h in
theorem agt7 (hm : m < 9223372036854775808) (hk11 : ((k : Int) % 11) = 7) : AgreeAns w rb mb k v u m lo := by
  have HH := Lib.hid h
  have hlr := h.r.lt; have hlm := h.m.lt
  obtain ⟨wA, hwA⟩ : ∃ wA, wA = w.alloc (.cells #[.int .u8 k, .int .i64 m, .int .i64 lo] 51) := ⟨_, rfl⟩
  have hka : Kept (fun _ => False) w wA := by rw [hwA]; exact Kept.alloc _ _ _
  have HBX : Hid (∀ W, Kept (RM rb mb) wA W → W.cell? ⟨w.heap.size, 0, none⟩ = some (.int .u8 k) ∧ W.cell? ⟨w.heap.size, 1, none⟩ = some (.int .i64 m) ∧ W.cell? ⟨w.heap.size, 2, none⟩ = some (.int .i64 lo)) := fun W hk => by
    have hb : ¬ RM rb mb w.heap.size := fun e => by rcases e with e | e <;> omega
    have hs : w.heap.size < wA.heap.size := by rw [hwA]; simp
    exact ⟨(hk.cell (p := ⟨w.heap.size, 0, none⟩) hs hb).trans (by rw [hwA]; go_simp), (hk.cell (p := ⟨w.heap.size, 1, none⟩) hs hb).trans (by rw [hwA]; go_simp), (hk.cell (p := ⟨w.heap.size, 2, none⟩) hs hb).trans (by rw [hwA]; go_simp)⟩
  have HWA := Lib.hid hwA; have HKA := Lib.hid hka
  clear hwA hka hlr hlm h
  unfold AgreeAns
  go_enter Tryd.func23, Tryd.ntmps23
  go_wp2_with fail
  rw [← HWA.out]
  obtain ⟨b0, b1, b2⟩ := HBX.out wA (Kept.refl _ _)
  have K0 := Lib.hid (HKA.out.drew)
  have KX0 := Lib.hid (show Kept (RM rb mb) wA wA.drew from (Kept.refl _ _).drew)
  have HM := Lib.hid hm
  clear hm
  go_region_held3 (fun w' => w'.cell? ⟨w.heap.size, 0, none⟩ = some (.int .u8 k) ∧ w'.cell? ⟨w.heap.size, 1, none⟩ = some (.int .i64 m) ∧ w'.cell? ⟨w.heap.size, 2, none⟩ = some (.int .i64 lo))
    (first | exact HBX.out _ KX3.out | exact HBX.out _ KX2.out | exact HBX.out _ KX1.out | exact HBX.out _ KX0.out)
    ((first | (go_at_call 71; with_reducible refine (wcount_any wA.drew rb v xs err m HM.out (two_r0 HH.out K0.out) HH.out.byte).mono ?_; rintro e w1 ⟨rfl, v1, hr1, hv1, k1⟩; have Hr1 := Lib.hid hr1; have HV1 := Lib.hid hv1; have K1 := Lib.hid k1; have KX1 := Lib.hid (rm_t KX0.out (rm_r k1)); clear hr1 hv1 k1) | (go_at_call 72; with_reducible refine (mcount_any w1 mb u xs err m HM.out (two_m1 HH.out K0.out K1.out) HH.out.byte).mono ?_; rintro e w2 ⟨rfl, u2, hm2, hu2, k2⟩; have Hm2 := Lib.hid hm2; have HU2 := Lib.hid hu2; have K2 := Lib.hid k2; have KX2 := Lib.hid (rm_t KX1.out (rm_m k2)); clear hm2 hu2 k2)))
  all_goals
    go_wp2_with fail
    go_ret
    exact ⟨by simp, two_res HH.out K0.out Hr1.out HV1.out K1.out Hm2.out HU2.out K2.out (cntI_keep HH.out.byte HH.out.len _ _).1 (cntI_keep HH.out.byte HH.out.len _ _).2⟩

set_option maxRecDepth 100000 in
set_option maxHeartbeats 1600000 in
include h in
theorem agt3 (hm : m < 9223372036854775808) (hk11 : ((k : Int) % 11) = 3) : AgreeAns w rb mb k v u m lo := by
  have HH := Lib.hid h
  have hlr := h.r.lt; have hlm := h.m.lt
  obtain ⟨wA, hwA⟩ : ∃ wA, wA = w.alloc (.cells #[.int .u8 k, .int .i64 m, .int .i64 lo] 51) := ⟨_, rfl⟩
  have hka : Kept (fun _ => False) w wA := by rw [hwA]; exact Kept.alloc _ _ _
  have HBX : Hid (∀ W, Kept (RM rb mb) wA W → W.cell? ⟨w.heap.size, 0, none⟩ = some (.int .u8 k) ∧ W.cell? ⟨w.heap.size, 1, none⟩ = some (.int .i64 m) ∧ W.cell? ⟨w.heap.size, 2, none⟩ = some (.int .i64 lo)) := fun W hk => by
    have hb : ¬ RM rb mb w.heap.size := fun e => by rcases e with e | e <;> omega
    have hs : w.heap.size < wA.heap.size := by rw [hwA]; simp
    exact ⟨(hk.cell (p := ⟨w.heap.size, 0, none⟩) hs hb).trans (by rw [hwA]; go_simp), (hk.cell (p := ⟨w.heap.size, 1, none⟩) hs hb).trans (by rw [hwA]; go_simp), (hk.cell (p := ⟨w.heap.size, 2, none⟩) hs hb).trans (by rw [hwA]; go_simp)⟩
  have HWA := Lib.hid hwA; have HKA := Lib.hid hka
  have h0 := h
  clear hwA hka hlr hlm h
  unfold AgreeAns
  go_enter Tryd.func23, Tryd.ntmps23
  go_wp2_with fail
  rw [← HWA.out]
  obtain ⟨b0, b1, b2⟩ := HBX.out wA (Kept.refl _ _)
  have K0 := Lib.hid (HKA.out.drew)
  have KX0 := Lib.hid (show Kept (RM rb mb) wA wA.drew from (Kept.refl _ _).drew)
  have HM := Lib.hid hm
  clear hm
  have HPL : Hid ((pieceS xs m err).1.length ≤ 1000000) := by have := (pieceS_keep h0.byte h0.len m err).2.2; show _ ≤ _; omega
  clear h0
  go_region_with ((first | (go_at_call 64; with_reducible refine (rstring_any wA.drew rb v xs err m (two_r0 HH.out K0.out) HH.out.byte HM).mono ?_; rintro e w1 ⟨rfl, v1, hr1, hv1, k1⟩; have Hr1 := Lib.hid hr1; have HV1 := Lib.hid hv1; have K1 := Lib.hid k1; have KX1 := Lib.hid (rm_t KX0.out (rm_r k1)); clear hr1 hv1 k1 b0 b1 b2; obtain ⟨b0, b1, b2⟩ := HBX.out w1 KX1.out) | (go_at_call 65; with_reducible refine (mbytes_any w1 mb u xs err m HM.out (two_m1 HH.out K0.out K1.out) HH.out.byte HPL.out).mono ?_; rintro e w2 ⟨q2, u2, rfl, hq2, hqb, hm2, hu2, k2⟩; have Hm2 := Lib.hid hm2; have HU2 := Lib.hid hu2; have K2 := Lib.hid k2; have KX2 := Lib.hid (rm_t KX1.out (rm_m k2)); clear hm2 hu2 k2; have hs9 := reads_str2 hq2; clear hq2 b0 b1 b2; obtain ⟨b0, b1, b2⟩ := HBX.out w2 KX2.out)))
  all_goals
    go_wp2_with fail
    go_ret
    exact ⟨by first | rfl | simp [go_sem], two_res HH.out K0.out Hr1.out HV1.out K1.out Hm2.out HU2.out K2.out (pieceS_keep HH.out.byte HH.out.len _ _).1 (pieceS_keep HH.out.byte HH.out.len _ _).2.1⟩

set_option maxRecDepth 100000 in
set_option maxHeartbeats 1600000 in
include h in
theorem agt4 (hm : m < 9223372036854775808) (hk11 : ((k : Int) % 11) = 4) : AgreeAns w rb mb k v u m lo := by
  have HH := Lib.hid h
  have hlr := h.r.lt; have hlm := h.m.lt
  obtain ⟨wA, hwA⟩ : ∃ wA, wA = w.alloc (.cells #[.int .u8 k, .int .i64 m, .int .i64 lo] 51) := ⟨_, rfl⟩
  have hka : Kept (fun _ => False) w wA := by rw [hwA]; exact Kept.alloc _ _ _
  have HBX : Hid (∀ W, Kept (RM rb mb) wA W → W.cell? ⟨w.heap.size, 0, none⟩ = some (.int .u8 k) ∧ W.cell? ⟨w.heap.size, 1, none⟩ = some (.int .i64 m) ∧ W.cell? ⟨w.heap.size, 2, none⟩ = some (.int .i64 lo)) := fun W hk => by
    have hb : ¬ RM rb mb w.heap.size := fun e => by rcases e with e | e <;> omega
    have hs : w.heap.size < wA.heap.size := by rw [hwA]; simp
    exact ⟨(hk.cell (p := ⟨w.heap.size, 0, none⟩) hs hb).trans (by rw [hwA]; go_simp), (hk.cell (p := ⟨w.heap.size, 1, none⟩) hs hb).trans (by rw [hwA]; go_simp), (hk.cell (p := ⟨w.heap.size, 2, none⟩) hs hb).trans (by rw [hwA]; go_simp)⟩
  have HWA := Lib.hid hwA; have HKA := Lib.hid hka
  have h0 := h
  have HMB0 : Hid (mb < w.heap.size) := hlm
  clear hwA hka hlr hlm h
  unfold AgreeAns
  go_enter Tryd.func23, Tryd.ntmps23
  go_wp2_with fail
  rw [← HWA.out]
  obtain ⟨b0, b1, b2⟩ := HBX.out wA (Kept.refl _ _)
  have K0 := Lib.hid (HKA.out.drew)
  have KX0 := Lib.hid (show Kept (RM rb mb) wA wA.drew from (Kept.refl _ _).drew)
  have HM := Lib.hid hm
  clear hm
  have HPL : Hid ((pieceS xs m err).1.length ≤ 1000000) := by have := (pieceS_keep h0.byte h0.len m err).2.2; show _ ≤ _; omega
  have HL3 := Lib.hid (pieceS_byte m err h0.byte).1
  clear h0
  go_region_held3 (fun w' => w'.cell? ⟨w.heap.size, 0, none⟩ = some (.int .u8 k) ∧ w'.cell? ⟨w.heap.size, 1, none⟩ = some (.int .i64 m) ∧ w'.cell? ⟨w.heap.size, 2, none⟩ = some (.int .i64 lo))
    (first | exact HBX.out _ KX3.out | exact HBX.out _ KX2.out | exact HBX.out _ KX1.out | exact HBX.out _ KX0.out)
    ((first | (go_at_call 66; with_reducible refine (rbytes_any wA.drew rb v xs err m (two_r0 HH.out K0.out) HH.out.byte HM (by have := HPL.out; omega)).mono ?_; rintro e w1 ⟨q1, v1, rfl, hq1, hr1, hv1, k1⟩; have Hr1 := Lib.hid hr1; have HV1 := Lib.hid hv1; have K1 := Lib.hid k1; have KX1 := Lib.hid (rm_t KX0.out (rm_r k1)); clear hr1 hv1 k1; have HB1 := Lib.hid (show ∀ k, q1.ownBlock = some k → ¬ k = mb from fun k hk e => by have h5 := hq1.block k hk; have h6 := HMB0.out; have h7 := K0.out.size; omega); have HQ1 := Lib.hid hq1.reads; clear hq1) | (go_at_call 65; with_reducible refine (mbytes_any w1 mb u xs err m HM.out (two_m1 HH.out K0.out K1.out) HH.out.byte HPL.out).mono ?_; rintro e w2 ⟨q2, u2, rfl, hq2, hqb, hm2, hu2, k2⟩; have Hm2 := Lib.hid hm2; have HU2 := Lib.hid hu2; have K2 := Lib.hid k2; have KX2 := Lib.hid (rm_t KX1.out (rm_m k2)); clear hm2 hu2 k2; have HQ2 := Lib.hid hq2; clear hq2) | (go_at_call 56; with_reducible refine (same_any w2 _ _ _ _ (HQ1.out.kept K2.out HB1.out) HQ2.out HL3.out HL3.out).mono ?_; rintro e w3 ⟨rfl, rfl⟩)))
  all_goals
    go_wp2_with fail
    go_ret
    exact ⟨by simp, two_res HH.out K0.out Hr1.out HV1.out K1.out Hm2.out HU2.out K2.out (pieceS_keep HH.out.byte HH.out.len _ _).1 (pieceS_keep HH.out.byte HH.out.len _ _).2.1⟩

set_option maxRecDepth 100000 in
set_option maxHeartbeats 1600000 in
include h in
theorem agt6  (hk11 : ((k : Int) % 11) = 6) : AgreeAns w rb mb k v u m lo := by
  have HH := Lib.hid h
  have hlr := h.r.lt; have hlm := h.m.lt
  obtain ⟨wA, hwA⟩ : ∃ wA, wA = w.alloc (.cells #[.int .u8 k, .int .i64 m, .int .i64 lo] 51) := ⟨_, rfl⟩
  have hka : Kept (fun _ => False) w wA := by rw [hwA]; exact Kept.alloc _ _ _
  have HBX : Hid (∀ W, Kept (RM rb mb) wA W → W.cell? ⟨w.heap.size, 0, none⟩ = some (.int .u8 k) ∧ W.cell? ⟨w.heap.size, 1, none⟩ = some (.int .i64 m) ∧ W.cell? ⟨w.heap.size, 2, none⟩ = some (.int .i64 lo)) := fun W hk => by
    have hb : ¬ RM rb mb w.heap.size := fun e => by rcases e with e | e <;> omega
    have hs : w.heap.size < wA.heap.size := by rw [hwA]; simp
    exact ⟨(hk.cell (p := ⟨w.heap.size, 0, none⟩) hs hb).trans (by rw [hwA]; go_simp), (hk.cell (p := ⟨w.heap.size, 1, none⟩) hs hb).trans (by rw [hwA]; go_simp), (hk.cell (p := ⟨w.heap.size, 2, none⟩) hs hb).trans (by rw [hwA]; go_simp)⟩
  have HWA := Lib.hid hwA; have HKA := Lib.hid hka
  have h0 := h
  have HMB0 : Hid (mb < w.heap.size) := hlm
  clear hwA hka hlr hlm h
  unfold AgreeAns
  go_enter Tryd.func23, Tryd.ntmps23
  go_wp2_with fail
  rw [← HWA.out]
  obtain ⟨b0, b1, b2⟩ := HBX.out wA (Kept.refl _ _)
  have K0 := Lib.hid (HKA.out.drew)
  have KX0 := Lib.hid (show Kept (RM rb mb) wA wA.drew from (Kept.refl _ _).drew)
  have HL3 := Lib.hid (rawS_keep h0.byte h0.len m err).2.2
  clear h0
  go_region_held3 (fun w' => w'.cell? ⟨w.heap.size, 0, none⟩ = some (.int .u8 k) ∧ w'.cell? ⟨w.heap.size, 1, none⟩ = some (.int .i64 m) ∧ w'.cell? ⟨w.heap.size, 2, none⟩ = some (.int .i64 lo))
    (first | exact HBX.out _ KX3.out | exact HBX.out _ KX2.out | exact HBX.out _ KX1.out | exact HBX.out _ KX0.out)
    ((first | (go_at_call 69; with_reducible refine (wraw_any wA.drew rb v xs err m (two_r0 HH.out K0.out) (by have := HH.out.len; omega)).mono ?_; rintro e w1 ⟨q1, v1, rfl, hq1, hb1, hr1, hv1, k1⟩; have Hr1 := Lib.hid hr1; have HV1 := Lib.hid hv1; have K1 := Lib.hid k1; have KX1 := Lib.hid (rm_t KX0.out (rm_r k1)); clear hr1 hv1 k1; have HB1 := Lib.hid (show ∀ k, q1.ownBlock = some k → ¬ k = mb from fun k hk e => by have h5 := hb1 k hk; have h6 := HMB0.out; have h7 := K0.out.size; omega); have HQ1 := Lib.hid hq1; clear hq1 hb1) | (go_at_call 70; with_reducible refine (mraw_any w1 mb u xs err m (two_m1 HH.out K0.out K1.out) (by have := HH.out.len; omega)).mono ?_; rintro e w2 ⟨q2, u2, rfl, hq2, hqb, hm2, hu2, k2⟩; have Hm2 := Lib.hid hm2; have HU2 := Lib.hid hu2; have K2 := Lib.hid k2; have KX2 := Lib.hid (rm_t KX1.out (rm_m k2)); clear hm2 hu2 k2; have HQ2 := Lib.hid hq2; clear hq2) | (go_at_call 56; with_reducible refine (same_any w2 _ _ _ _ (HQ1.out.kept K2.out HB1.out) HQ2.out HL3.out HL3.out).mono ?_; rintro e w3 ⟨rfl, rfl⟩)))
  all_goals
    go_wp2_with fail
    go_ret
    exact ⟨by simp, two_res HH.out K0.out Hr1.out HV1.out K1.out Hm2.out HU2.out K2.out (rawS_keep HH.out.byte HH.out.len _ _).1 (rawS_keep HH.out.byte HH.out.len _ _).2.1⟩

set_option maxRecDepth 100000 in
set_option maxHeartbeats 1600000 in
include h in
theorem agt5  (hk11 : ((k : Int) % 11) = 5) : AgreeAns w rb mb k v u m lo := by
  have HH := Lib.hid h
  have hlr := h.r.lt; have hlm := h.m.lt
  obtain ⟨wA, hwA⟩ : ∃ wA, wA = w.alloc (.cells #[.int .u8 k, .int .i64 m, .int .i64 lo] 51) := ⟨_, rfl⟩
  have hka : Kept (fun _ => False) w wA := by rw [hwA]; exact Kept.alloc _ _ _
  have HBX : Hid (∀ W, Kept (RM rb mb) wA W → W.cell? ⟨w.heap.size, 0, none⟩ = some (.int .u8 k) ∧ W.cell? ⟨w.heap.size, 1, none⟩ = some (.int .i64 m) ∧ W.cell? ⟨w.heap.size, 2, none⟩ = some (.int .i64 lo)) := fun W hk => by
    have hb : ¬ RM rb mb w.heap.size := fun e => by rcases e with e | e <;> omega
    have hs : w.heap.size < wA.heap.size := by rw [hwA]; simp
    exact ⟨(hk.cell (p := ⟨w.heap.size, 0, none⟩) hs hb).trans (by rw [hwA]; go_simp), (hk.cell (p := ⟨w.heap.size, 1, none⟩) hs hb).trans (by rw [hwA]; go_simp), (hk.cell (p := ⟨w.heap.size, 2, none⟩) hs hb).trans (by rw [hwA]; go_simp)⟩
  have HWA := Lib.hid hwA; have HKA := Lib.hid hka
  clear hwA hka hlr hlm h
  unfold AgreeAns
  go_enter Tryd.func23, Tryd.ntmps23
  go_wp2_with fail
  rw [← HWA.out]
  obtain ⟨b0, b1, b2⟩ := HBX.out wA (Kept.refl _ _)
  refine (rflag_any wA rb v xs err (two_r0 HH.out HKA.out)).mono ?_
  rintro e w1 ⟨rfl, v1, hr1, hv1, k1⟩
  have Hr1 := Lib.hid hr1; have HV1 := Lib.hid hv1; have K1 := Lib.hid k1
  clear hr1 hv1 k1 b0 b1 b2
  go_wp2_with fail
  refine (mflag_any w1 mb u xs err (two_m1 HH.out HKA.out K1.out)).mono ?_
  rintro e w2 ⟨rfl, u2, hm2, hu2, k2⟩
  have Hm2 := Lib.hid hm2; have HU2 := Lib.hid hu2; have K2 := Lib.hid k2
  clear hm2 hu2 k2
  go_wp2_with fail
  go_ret
  exact ⟨by simp, two_res HH.out HKA.out Hr1.out HV1.out K1.out Hm2.out HU2.out K2.out (flagS_keep HH.out.byte HH.out.len _).1 (flagS_keep HH.out.byte HH.out.len _).2⟩

set_option maxRecDepth 100000 in
set_option maxHeartbeats 1600000 in
include h in
theorem agt10  (hk11 : ((k : Int) % 11) = 10) : AgreeAns w rb mb k v u m lo := by
  have HH := Lib.hid h
  have hlr := h.r.lt; have hlm := h.m.lt
  obtain ⟨wA, hwA⟩ : ∃ wA, wA = w.alloc (.cells #[.int .u8 k, .int .i64 m, .int .i64 lo] 51) := ⟨_, rfl⟩
  have hka : Kept (fun _ => False) w wA := by rw [hwA]; exact Kept.alloc _ _ _
  have HBX : Hid (∀ W, Kept (RM rb mb) wA W → W.cell? ⟨w.heap.size, 0, none⟩ = some (.int .u8 k) ∧ W.cell? ⟨w.heap.size, 1, none⟩ = some (.int .i64 m) ∧ W.cell? ⟨w.heap.size, 2, none⟩ = some (.int .i64 lo)) := fun W hk => by
    have hb : ¬ RM rb mb w.heap.size := fun e => by rcases e with e | e <;> omega
    have hs : w.heap.size < wA.heap.size := by rw [hwA]; simp
    exact ⟨(hk.cell (p := ⟨w.heap.size, 0, none⟩) hs hb).trans (by rw [hwA]; go_simp), (hk.cell (p := ⟨w.heap.size, 1, none⟩) hs hb).trans (by rw [hwA]; go_simp), (hk.cell (p := ⟨w.heap.size, 2, none⟩) hs hb).trans (by rw [hwA]; go_simp)⟩
  have HWA := Lib.hid hwA; have HKA := Lib.hid hka
  clear hwA hka hlr hlm h
  unfold AgreeAns
  go_enter Tryd.func23, Tryd.ntmps23
  go_wp2_with fail
  rw [← HWA.out]
  obtain ⟨b0, b1, b2⟩ := HBX.out wA (Kept.refl _ _)
  obtain ⟨E, hE⟩ : ∃ E : Int, E = (if err = 0 ∧ 0 < xs.length then 6 else err) := ⟨_, rfl⟩
  have q1 := end_any wA rb v xs err (two_r0 HH.out HKA.out)
  have q2 := mend_any wA mb u xs err (HH.out.m.kept HKA.out (fun h => h) (fun _ _ h => h))
  rw [← hE] at q1 q2
  have Q1 := Lib.hid q1; have Q2 := Lib.hid q2
  clear q1 q2 hE
  refine Q1.out.mono ?_
  rintro e w1 ⟨rfl, rfl⟩
  clear b0 b1 b2
  go_wp2_with fail
  refine Q2.out.mono ?_
  rintro e w2 ⟨rfl, rfl⟩
  go_wp2_with fail
  go_ret
  exact ⟨by simp, ⟨v, u, xs, err, ⟨two_r0 HH.out HKA.out, HH.out.m.kept HKA.out (fun h => h) (fun _ _ h => h), HH.out.ne, HH.out.va, HH.out.ua, HH.out.byte, HH.out.len⟩, rfl, rfl, rm_0 HKA.out⟩⟩

set_option maxRecDepth 100000 in
set_option maxHeartbeats 1600000 in
include h in
theorem agt9s (U E : Nat) (hU : IntKind.u64.wrap m = (U : Int)) (hE1 : (U : Int).tmod 17 = (E : Int)) (hE2 : (U : Int) % 17 = (E : Int)) (hE3 : E ≤ 16) (he : err = 0) (hk11 : ((k : Int) % 11) = 9) : AgreeAns w rb mb k v u m lo := by
  subst he
  have HH := Lib.hid h
  have hlr := h.r.lt; have hlm := h.m.lt
  obtain ⟨wA, hwA⟩ : ∃ wA, wA = w.alloc (.cells #[.int .u8 k, .int .i64 m, .int .i64 lo] 51) := ⟨_, rfl⟩
  have hka : Kept (fun _ => False) w wA := by rw [hwA]; exact Kept.alloc _ _ _
  have HBX : Hid (∀ W, Kept (RM rb mb) wA W → W.cell? ⟨w.heap.size, 0, none⟩ = some (.int .u8 k) ∧ W.cell? ⟨w.heap.size, 1, none⟩ = some (.int .i64 m) ∧ W.cell? ⟨w.heap.size, 2, none⟩ = some (.int .i64 lo)) := fun W hk => by
    have hb : ¬ RM rb mb w.heap.size := fun e => by rcases e with e | e <;> omega
    have hs : w.heap.size < wA.heap.size := by rw [hwA]; simp
    exact ⟨(hk.cell (p := ⟨w.heap.size, 0, none⟩) hs hb).trans (by rw [hwA]; go_simp), (hk.cell (p := ⟨w.heap.size, 1, none⟩) hs hb).trans (by rw [hwA]; go_simp), (hk.cell (p := ⟨w.heap.size, 2, none⟩) hs hb).trans (by rw [hwA]; go_simp)⟩
  have HWA := Lib.hid hwA; have HKA := Lib.hid hka
  clear hwA hka hlr hlm h
  unfold AgreeAns
  go_enter Tryd.func23, Tryd.ntmps23
  go_wp2_with fail
  rw [← HWA.out]
  obtain ⟨b0, b1, b2⟩ := HBX.out wA (Kept.refl _ _)
  have hr0 := two_r0 HH.out HKA.out
  have hm0 := HH.out.m.kept HKA.out (fun h => h) (fun _ _ h => h)
  have HR0 := Lib.hid hr0; have HM0 := Lib.hid hm0
  clear hr0 hm0
  refine (fail_set wA rb (E : Int) HR0.out.cell1 HR0.out.free1).mono ?_
  rintro e w1 ⟨rfl, rfl⟩
  have hm1 := HM0.out.kept (Kept.setCell (fun k => k = rb) wA ⟨rb, 1, none⟩ (.int .i64 (E : Int)) rfl) (fun e => HH.out.ne e.symm) (fun k hk e => HH.out.ua (by rw [hk, e]))
  have hr1 := HR0.out.setErr (E : Int)
  have k1 := Kept.setCell (fun k => k = rb) wA ⟨rb, 1, none⟩ (.int .i64 (E : Int)) rfl
  generalize wA.setCell ⟨rb, 1, none⟩ (.int .i64 (E : Int)) = w1 at hm1 hr1 k1 ⊢
  have c1 := hm1.cell1; have f1 := hm1.free1
  have HM1 := Lib.hid hm1; have HR1 := Lib.hid hr1; have K1 := Lib.hid k1
  clear hm1 hr1 k1 b0 b1 b2
  go_wp2_with fail
  go_ret
  exact ⟨by simp, two_res HH.out HKA.out HR1.out rfl K1.out (HM1.out.setErr (E : Int)) rfl (Kept.setCell _ _ _ _ rfl) HH.out.byte HH.out.len⟩

set_option maxRecDepth 100000 in
set_option maxHeartbeats 1600000 in
include h in
theorem agt9n (U E : Nat) (hU : IntKind.u64.wrap m = (U : Int)) (hE1 : (U : Int).tmod 17 = (E : Int)) (hE2 : (U : Int) % 17 = (E : Int)) (hE3 : E ≤ 16) (he : err ≠ 0) (he1 : (err == 0) = false) (hk11 : ((k : Int) % 11) = 9) : AgreeAns w rb mb k v u m lo := by
  have HH := Lib.hid h
  have hlr := h.r.lt; have hlm := h.m.lt
  obtain ⟨wA, hwA⟩ : ∃ wA, wA = w.alloc (.cells #[.int .u8 k, .int .i64 m, .int .i64 lo] 51) := ⟨_, rfl⟩
  have hka : Kept (fun _ => False) w wA := by rw [hwA]; exact Kept.alloc _ _ _
  have HBX : Hid (∀ W, Kept (RM rb mb) wA W → W.cell? ⟨w.heap.size, 0, none⟩ = some (.int .u8 k) ∧ W.cell? ⟨w.heap.size, 1, none⟩ = some (.int .i64 m) ∧ W.cell? ⟨w.heap.size, 2, none⟩ = some (.int .i64 lo)) := fun W hk => by
    have hb : ¬ RM rb mb w.heap.size := fun e => by rcases e with e | e <;> omega
    have hs : w.heap.size < wA.heap.size := by rw [hwA]; simp
    exact ⟨(hk.cell (p := ⟨w.heap.size, 0, none⟩) hs hb).trans (by rw [hwA]; go_simp), (hk.cell (p := ⟨w.heap.size, 1, none⟩) hs hb).trans (by rw [hwA]; go_simp), (hk.cell (p := ⟨w.heap.size, 2, none⟩) hs hb).trans (by rw [hwA]; go_simp)⟩
  have HWA := Lib.hid hwA; have HKA := Lib.hid hka
  clear hwA hka hlr hlm h
  unfold AgreeAns
  go_enter Tryd.func23, Tryd.ntmps23
  go_wp2_with fail
  rw [← HWA.out]
  obtain ⟨b0, b1, b2⟩ := HBX.out wA (Kept.refl _ _)
  have hr0 := two_r0 HH.out HKA.out
  have hm0 := HH.out.m.kept HKA.out (fun h => h) (fun _ _ h => h)
  have HR0 := Lib.hid hr0; have HM0 := Lib.hid hm0
  have HE := Lib.hid he
  clear hr0 hm0 he
  refine (fail_stays wA rb (E : Int) err HE.out HR0.out.cell1).mono ?_
  rintro e w1 ⟨rfl, rfl⟩
  have c1 := HM0.out.cell1
  clear b0 b1 b2
  go_wp2_with fail
  go_ret
  exact ⟨by simp, ⟨v, u, xs, err, ⟨HR0.out, HM0.out, HH.out.ne, HH.out.va, HH.out.ua, HH.out.byte, HH.out.len⟩, rfl, rfl, rm_0 HKA.out⟩⟩

set_option maxRecDepth 100000 in
set_option maxHeartbeats 1600000 in
include h in
theorem agt8 (hT : Tz w) (hg : ¬ 1 = rb ∧ ¬ 1 = mb) (hk11 : ((k : Int) % 11) = 8) : AgreeAns w rb mb k v u m lo := by
  have HH := Lib.hid h
  have hlr := h.r.lt; have hlm := h.m.lt
  obtain ⟨wA, hwA⟩ : ∃ wA, wA = w.alloc (.cells #[.int .u8 k, .int .i64 m, .int .i64 lo] 51) := ⟨_, rfl⟩
  have hka : Kept (fun _ => False) w wA := by rw [hwA]; exact Kept.alloc _ _ _
  have HBX : Hid (∀ W, Kept (RM rb mb) wA W → W.cell? ⟨w.heap.size, 0, none⟩ = some (.int .u8 k) ∧ W.cell? ⟨w.heap.size, 1, none⟩ = some (.int .i64 m) ∧ W.cell? ⟨w.heap.size, 2, none⟩ = some (.int .i64 lo)) := fun W hk => by
    have hb : ¬ RM rb mb w.heap.size := fun e => by rcases e with e | e <;> omega
    have hs : w.heap.size < wA.heap.size := by rw [hwA]; simp
    exact ⟨(hk.cell (p := ⟨w.heap.size, 0, none⟩) hs hb).trans (by rw [hwA]; go_simp), (hk.cell (p := ⟨w.heap.size, 1, none⟩) hs hb).trans (by rw [hwA]; go_simp), (hk.cell (p := ⟨w.heap.size, 2, none⟩) hs hb).trans (by rw [hwA]; go_simp)⟩
  have HWA := Lib.hid hwA; have HKA := Lib.hid hka
  have h0 := h
  have HMB0 : Hid (mb < w.heap.size) := hlm
  have HT := Lib.hid hT; have HG := Lib.hid hg
  clear hwA hka hlr hlm h hT hg
  unfold AgreeAns
  go_enter Tryd.func23, Tryd.ntmps23
  go_wp2_with fail
  rw [← HWA.out]
  obtain ⟨b0, b1, b2⟩ := HBX.out wA (Kept.refl _ _)
  have K0 := Lib.hid (HKA.out.drew)
  have KX0 := Lib.hid (show Kept (RM rb mb) wA wA.drew from (Kept.refl _ _).drew)
  have HSM := Lib.hid (setS_keep h0.byte h0.len m err).2.2
  clear h0
  go_region_held3 (fun w' => w'.cell? ⟨w.heap.size, 0, none⟩ = some (.int .u8 k) ∧ w'.cell? ⟨w.heap.size, 1, none⟩ = some (.int .i64 m) ∧ w'.cell? ⟨w.heap.size, 2, none⟩ = some (.int .i64 lo))
    (first | exact HBX.out _ KX4.out | exact HBX.out _ KX3.out | exact HBX.out _ KX2.out | exact HBX.out _ KX1.out | exact HBX.out _ KX0.out)
    ((first | (go_at_call 73; with_reducible refine (rset_any wA.drew rb v xs err m (two_r0 HH.out K0.out) HH.out.byte).mono ?_; rintro e w1 ⟨sv, v1, rfl, hs1, hr1, hv1, k1⟩; have Hr1 := Lib.hid hr1; have HV1 := Lib.hid hv1; have K1 := Lib.hid k1; have KX1 := Lib.hid (rm_t KX0.out (rm_r k1)); have HS1 := Lib.hid hs1; have HT1 := Lib.hid ((HT.out.kept K0.out (fun h => h)).kept k1 HG.out.1); clear hr1 hv1 k1 hs1) | (go_at_call 17; with_reducible refine (list_any w1 sv _ HS1.out HSM.out HT1.out).mono ?_; rintro e w2 ⟨l1, rfl, ho1, hob, k2⟩; have HL1 := Lib.hid (Ints.ofOwns ho1); have Hr2 := Lib.hid (Hr1.out.kept k2 (fun h => h) (fun _ _ h => h)); have HLB := Lib.hid (show ∀ k, l1.ownBlock = some k → ¬ k = mb from fun k hk e => by have h5 := hob k hk; have h6 := HMB0.out; have h7 := K0.out.size; have h8 := K1.out.size; omega); have K2 := Lib.hid (K1.out.trans k2 (fun _ _ h => h) (fun _ _ h => h.elim)); have KX2 := Lib.hid (rm_t KX1.out (rm_0 k2)); clear ho1 k2 hob) | (go_at_call 74; with_reducible refine (mset_any w2 mb u xs err m (two_m1 HH.out K0.out K2.out) HH.out.byte (by have := HH.out.len; omega)).mono ?_; rintro e w3 ⟨l2, u3, rfl, hl2, hlb, hm3, hu3, k3⟩; have Hm3 := Lib.hid hm3; have HU3 := Lib.hid hu3; have K3 := Lib.hid k3; have KX3 := Lib.hid (rm_t KX2.out (rm_m k3)); have HL2 := Lib.hid hl2; clear hm3 hu3 k3 hl2 hlb) | (go_at_call 16; with_reducible refine (equali_any w3 _ _ _ _ (HL1.out.kept K3.out HLB.out) HL2.out).mono ?_; rintro e w4 ⟨rfl, k4⟩; have K4 := Lib.hid k4; have KX4 := Lib.hid (rm_t KX3.out (rm_0 k4)); clear k4)))
  all_goals
    go_wp2_with fail
    go_ret
    refine ⟨by simp, ?_⟩
    obtain ⟨v', u', ys, e', h1, h2, h3, h4⟩ := two_res HH.out K0.out Hr2.out HV1.out K2.out Hm3.out HU3.out K3.out (setS_keep HH.out.byte HH.out.len _ _).1 (setS_keep HH.out.byte HH.out.len _ _).2.1
    exact ⟨v', u', ys, e', ⟨h1.r.kept K4.out (fun h => h) (fun _ _ h => h), h1.m.kept K4.out (fun h => h) (fun _ _ h => h), h1.ne, h1.va, h1.ua, h1.byte, h1.len⟩, h2, h3, rm_t h4 (rm_0 K4.out)⟩
end

theorem u64_wrap_nonneg (m : Int) : 0 ≤ IntKind.u64.wrap m := by
  simp [IntKind.wrap, IntKind.bits, IntKind.signed]; omega

/-- 'agree' of any call. -/
theorem agree_any (w : World) (rb mb k : Nat) (v u : Value) (xs : List Nat) (err m lo : Int) (h : Two w rb mb v u xs err) (hT : Tz w) (hg : ¬ 1 = rb ∧ ¬ 1 = mb) (hm : m < 9223372036854775808) : AgreeAns w rb mb k v u m lo := by
  obtain ⟨U, hU⟩ : ∃ U : Nat, IntKind.u64.wrap m = (U : Int) := by
    have h1 : 0 ≤ IntKind.u64.wrap m := u64_wrap_nonneg m
    exact ⟨(IntKind.u64.wrap m).toNat, by omega⟩
  obtain ⟨E, hE⟩ : ∃ E, E = U % 17 := ⟨_, rfl⟩
  have hE1 : (U : Int).tmod 17 = (E : Int) := by rw [Int.tmod_eq_emod_of_nonneg (by omega)]; omega
  have hE2 : (U : Int) % 17 = (E : Int) := by omega
  have hk : k % 11 < 11 := Nat.mod_lt _ (by decide)
  have hk0 : k % 11 = 0 ∨ k % 11 = 1 ∨ k % 11 = 2 ∨ k % 11 = 3 ∨ k % 11 = 4 ∨ k % 11 = 5 ∨ k % 11 = 6 ∨ k % 11 = 7 ∨ k % 11 = 8 ∨ k % 11 = 9 ∨ k % 11 = 10 := by omega
  rcases hk0 with e | e | e | e | e | e | e | e | e | e | e
  · exact agt0 w rb mb k v u xs err m lo h U hU (by omega)
  · exact agt1 w rb mb k v u xs err m lo h hm (by omega)
  · exact agt2 w rb mb k v u xs err m lo h (by omega)
  · exact agt3 w rb mb k v u xs err m lo h hm (by omega)
  · exact agt4 w rb mb k v u xs err m lo h hm (by omega)
  · exact agt5 w rb mb k v u xs err m lo h (by omega)
  · exact agt6 w rb mb k v u xs err m lo h (by omega)
  · exact agt7 w rb mb k v u xs err m lo h hm (by omega)
  · exact agt8 w rb mb k v u xs err m lo h hT hg (by omega)
  · by_cases he : err = 0
    · exact agt9s w rb mb k v u xs err m lo h U E hU hE1 hE2 (by omega) he (by omega)
    · exact agt9n w rb mb k v u xs err m lo h U E hU hE1 hE2 (by omega) he (by simpa using he) (by omega)
  · exact agt10 w rb mb k v u xs err m lo h (by omega)
end Go.Proofs.YtnmcihfegbdipaaDoor
/-
  A list of calls that came in: its elements lie in memory, three cells each.
-/
namespace Go.Proofs.YtnmcihfegbdipaaDoor
open Go.Joins Go.ChangeShapes Go.WideShapes Go.ChangeAt Go.RowKit Go.Deep

theorem cellsCl : Tryd.prog.cellsOf 51 = 3 := by kernel_rfl
theorem cellsC8 : Tryd.prog.cellsOf 5 = 1 := by kernel_rfl
theorem cellsCi : Tryd.prog.cellsOf 3 = 1 := by kernel_rfl
theorem add_plainC (g off n : Nat) : (⟨g, off, none⟩ : Addr).add n = ⟨g, off + n, none⟩ := by unfold Addr.add; split <;> simp_all

/-- A call that lies in memory at an address: its three cells. -/
structure CallAt (w : World) (g o : Nat) (k : Nat) (m lo : Int) : Prop where
  c0 : w.cell? ⟨g, o, none⟩ = some (.int .u8 k)
  c1 : w.cell? ⟨g, o + 1, none⟩ = some (.int .i64 m)
  c2 : w.cell? ⟨g, o + 2, none⟩ = some (.int .i64 lo)
  hm : m < 9223372036854775808

/-- A list of calls in memory: it is empty, or its elements lie there. -/
def Cls (w : World) (v : Value) (N : Nat) : Prop :=
  ((∃ a c, v = .slice a 0 c) ∧ N = 0) ∨
  ∃ g off cap, v = .slice (some ⟨g, off, none⟩) N cap ∧ (N ≤ cap ∧ cap ≤ 9223372036854775807) ∧ ∀ i, i < N → ∃ k m lo, CallAt w g (off + i * 3) k m lo

set_option maxRecDepth 100000 in
theorem cls_of {H : Type} {enc : TypeId × Value → H} {W : World} {a : Option Addr} {len cap : Nat} {d : DataW H} {p : List MemPlace} {fuel : Nat} (h : DataW.trod enc Tryd.prog W 0 (fun _ => true) true fuel 42 [.slice a len cap] = some (d, p)) :
    Cls W (.slice a len cap) len := by
  rcases open_slice Tryd.underlying42 h with ⟨hcs, _⟩ | ⟨x, l, c, m, n, D, Pl, hcs, _, hl, hm, hmm, _, hi⟩
  · injection hcs with hcs
    injection hcs with e1 e2 e3
    subst e1 e2 e3
    exact Or.inl ⟨⟨_, _, rfl⟩, rfl⟩
  · injection hcs with hcs
    injection hcs with e1 e2 e3
    subst e1 e2 e3
    simp only [if_true] at hmm
    subst hmm
    have hel : ∀ i, i < len → ∃ x0 x1 x2 fu y0 y1 y2, W.cell? ((x.add (i * 3)).add 0) = some x0 ∧ W.cell? ((x.add (i * 3)).add 1) = some x1 ∧ W.cell? ((x.add (i * 3)).add 2) = some x2 ∧
        DataW.trod enc Tryd.prog W 0 (fun _ => true) true fu 5 [x0] = some y0 ∧ DataW.trod enc Tryd.prog W 0 (fun _ => true) true fu 3 [x1] = some y1 ∧ DataW.trod enc Tryd.prog W 0 (fun _ => true) true fu 3 [x2] = some y2 := by
      intro i hil
      obtain ⟨cs', hc, ht⟩ := hi i (by omega)
      rw [cellsCl] at hc
      obtain ⟨_, hcl, hat⟩ := World.cells?_some hc
      obtain ⟨y0, y1, y2, fu, _, hlen, t0, t1, t2⟩ := trod_struct3 Tryd.underlying51 ht
      rw [cellsCl] at hlen
      match cs', hlen with
      | [x0, x1, x2], _ =>
        refine ⟨x0, x1, x2, fu, y0, y1, y2, hat 0 (by omega), hat 1 (by omega), hat 2 (by omega), ?_, ?_, ?_⟩
        · simpa [cellsC8] using t0
        · simpa [cellsC8, cellsCi] using t1
        · simpa [cellsC8, cellsCi] using t2
    by_cases h0 : len = 0
    · subst h0
      exact Or.inl ⟨⟨_, _, rfl⟩, rfl⟩
    · obtain ⟨x0, _, _, _, _, _, _, hx0, _⟩ := hel 0 (by omega)
      rw [show (x.add (0 * 3)).add 0 = x from rfl] at hx0
      have hs := World.cell?_spot hx0
      obtain ⟨g, off, spot⟩ := x
      simp only at hs
      subst hs
      refine Or.inr ⟨g, off, _, rfl, ⟨hl, by unfold maxLen at hm; omega⟩, fun i hil => ?_⟩
      obtain ⟨x0, x1, x2, fu, y0, y1, y2, c0, c1, c2, t0, t1, t2⟩ := hel i hil
      rw [add_plainC, add_plainC] at c0 c1 c2
      obtain ⟨i0, e0, _, wk⟩ := DataW.trod_int Tryd.underlying5 t0
      obtain ⟨i1, e1, _, wU⟩ := DataW.trod_int Tryd.underlying3 t1
      obtain ⟨i2, e2, _, wS⟩ := DataW.trod_int Tryd.underlying3 t2
      injection e0 with e0; injection e1 with e1; injection e2 with e2
      subst e0 e1 e2
      simp [Lit.wf, IntKind.min, IntKind.max, IntKind.signed, IntKind.bits] at wk wU wS
      obtain ⟨kn, rfl⟩ := Int.eq_ofNat_of_zero_le (show 0 ≤ i0 by omega)
      exact ⟨kn, i1, i2, c0, c1, c2, by omega⟩

end Go.Proofs.YtnmcihfegbdipaaDoor
/-
  arbaclaw02.short of a slice of bytes.
-/
namespace Go.Proofs.YtnmcihfegbdipaaDoor
open Go.RowKit

set_option maxRecDepth 100000 in
set_option maxHeartbeats 400000 in
theorem short_at (w : World) (g off len cap : Nat) (hl : len ≤ cap) (hm : cap ≤ 9223372036854775807) :
    Calls Tryd.prog 21 #[.slice (some ⟨g, off, none⟩) len cap] w fun e w' => e = .returned (.slice (some ⟨g, off, none⟩) (min len 300) cap) ∧ w = w' := by
  by_cases h : len ≤ 300
  · have h1 : (len : Int) ≤ 300 := by omega
    have h2 : min len 300 = len := by omega
    have h3 : min (len : Int) 300 = (len : Int) := by omega
    rw [h2]
    go_enter Tryd.func21, Tryd.ntmps21
    go_wp2_with fail
    go_ret
    exact ⟨rfl, rfl⟩
  · have h1 : (300 : Int) < (len : Int) := by omega
    have h2 : min len 300 = 300 := by omega
    have h3 : min (len : Int) 300 = 300 := by omega
    have h4 : 300 ≤ cap := by omega
    rw [h2]
    go_enter Tryd.func21, Tryd.ntmps21
    go_wp2_with fail
    go_ret
    exact ⟨rfl, rfl⟩

set_option maxRecDepth 100000 in
set_option maxHeartbeats 400000 in
theorem short_nil (w : World) :
    Calls Tryd.prog 21 #[.slice none 0 0] w fun e w' => e = .returned (.slice none 0 0) ∧ w = w' := by
  go_enter Tryd.func21, Tryd.ntmps21
  go_wp2_with fail
  go_ret
  exact ⟨rfl, rfl⟩

/-- 'short': the first 300 bytes at the most. -/
theorem short_any (w : World) (v : Value) (xs : List Nat) (h : Reads w v xs) :
    Calls Tryd.prog 21 #[v] w fun e w' => ∃ v', e = .returned v' ∧ Reads w v' (xs.take 300) ∧ v'.ownBlock = v.ownBlock ∧ w = w' := by
  rcases h with ⟨rfl, rfl⟩ | ⟨g, off, cap, rfl, h1, h2, h3, h4⟩
  · refine (short_nil w).mono ?_
    rintro e w' ⟨rfl, rfl⟩
    exact ⟨_, rfl, Or.inl ⟨rfl, rfl⟩, rfl, rfl⟩
  · refine (short_at w g off xs.length cap h1 (by unfold maxLen at h2; omega)).mono ?_
    rintro e w' ⟨rfl, rfl⟩
    have hr : Reads w (.slice (some ⟨g, off, none⟩) xs.length cap) xs := Or.inr ⟨g, off, cap, rfl, h1, h2, h3, h4⟩
    refine ⟨_, rfl, ?_, rfl, rfl⟩
    have := Reads.take (min xs.length 300) hr (by omega)
    have he : xs.take (min xs.length 300) = xs.take 300 := by
      rcases Nat.le_total xs.length 300 with h | h
      · rw [Nat.min_eq_left h, List.take_length, List.take_of_length_le h]
      · rw [Nat.min_eq_right h]
    rw [he] at this
    exact this

end Go.Proofs.YtnmcihfegbdipaaDoor
/-
  arbaclaw02.awake: the chapter's first example holds.
-/
namespace Go.Proofs.YtnmcihfegbdipaaDoor
open Go.RowKit

theorem enc_small {n : Nat} (h : n < 128) : enc n = [n] := by
  rw [enc, Nat.div_eq_of_lt h, encHi_zero, Nat.mod_eq_of_lt h]; rfl
theorem enc_300 : enc 300 = [130, 44] := by
  rw [enc, show 300 / 128 = 2 from rfl, encHi_pos (by decide), show 2 / 128 = 0 from rfl, encHi_zero]; rfl
theorem mask_19 : maskOf [1, 9] = 514 := by decide
theorem bytes_514 : bytesOf 514 = [2, 2] := by
  unfold bytesOf
  rw [if_neg (by decide)]
  decide
theorem awake_bytes : ((enc 300 ++ enc (zz (-3))) ++ (enc 2 ++ [97, 98])) ++ (enc (bytesOf 514).length ++ bytesOf 514) = [130, 44, 5, 2, 97, 98, 2, 2, 2] := by
  rw [bytes_514, enc_300, show zz (-3) = 5 from rfl, enc_small (n := 5) (by decide), enc_small (n := 2) (by decide), show [2, 2].length = 2 from rfl, enc_small (n := 2) (by decide)]; rfl
theorem awake_read : uintS [128, 5] 1000 0 = (0, [128, 5], 6) := by decide

/-- A block of cells that was laid reads as its bytes. -/
theorem reads_lit (w : World) (cs : Array Value) (T : TypeId) (xs : List Nat) (n : Nat) (hn : n = xs.length) (hcs : cs.toList = bv xs) (hm : xs.length ≤ maxLen) :
    Reads (w.alloc (.cells cs T)) (.slice (some ⟨w.heap.size, 0, none⟩) n n) xs := by
  subst hn
  refine Or.inr ⟨w.heap.size, 0, xs.length, rfl, Nat.le_refl _, hm, by simp, fun i hi => ?_⟩
  rw [Nat.zero_add, cell_of_row _ w.heap.size i cs T (0, 0) (heap_alloc_new w _), ← Array.getElem?_toList, hcs, bv_getD xs i hi]

theorem ints_lit (w : World) (cs : Array Value) (T : TypeId) (xs : List Int) (n : Nat) (hn : n = xs.length) (hcs : cs.toList = xs.map (Value.int .i64)) (hm : xs.length ≤ maxLen) :
    Ints (w.alloc (.cells cs T)) (.slice (some ⟨w.heap.size, 0, none⟩) n n) xs := by
  subst hn
  refine Or.inr ⟨w.heap.size, 0, xs.length, rfl, Nat.le_refl _, hm, by simp, fun i hi => ?_⟩
  rw [Nat.zero_add, cell_of_row _ w.heap.size i cs T (0, 0) (heap_alloc_new w _), ← Array.getElem?_toList, hcs]
  simp [List.getD, hi]

set_option maxRecDepth 100000 in
set_option maxHeartbeats 1600000 in
theorem awake_any (w : World) : Calls Tryd.prog 20 #[] w fun e w' => e = .returned (.bool true) ∧ Kept (fun _ => False) w w' := by
  go_enter Tryd.func20, Tryd.ntmps20
  go_wp2_with fail
  refine (newWriter_any w).mono ?_
  rintro e w1 ⟨rfl, hw1⟩
  have hwr1 : Wr w1 w.heap.size (.slice none 0 0) w.heap.size [] := by rw [hw1]; exact wr_new w w.heap.size (Nat.le_refl _)
  have hk1 : Kept (fun _ => False) w w1 := by rw [hw1]; exact Kept.alloc _ _ _
  clear hw1
  go_wp2_with fail
  refine (uint_any 300 w1 w.heap.size _ w.heap.size [] hwr1 (by simp) (by show 300 < 18446744073709551616; omega)).mono ?_
  rintro e w2 ⟨rfl, v2, hwr2, hs2⟩
  go_wp2_with fail
  refine (int_any (-3) w2 w.heap.size _ w.heap.size _ hwr2 (by simp [enc_300]) ⟨by omega, by omega⟩).mono ?_
  rintro e w3 ⟨rfl, v3, hwr3, hs3⟩
  go_wp2_with fail
  have hz3 : enc (zz (-3)) = [5] := by rw [show zz (-3) = 5 from rfl, enc_small (n := 5) (by decide)]
  have hlt3 := hwr3.lt
  refine (string_any ⟨#[97, 98]⟩ w3 w.heap.size v3 w.heap.size _ hwr3 (by simp [enc_300, hz3]) (by simp [ByteArray.size]) (by omega)).mono ?_
  rintro e w4 ⟨rfl, v4, hwr4, hs4⟩
  have hlt4 := hwr4.lt
  rw [show ByteArray.size ⟨#[97, 98]⟩ = 2 from rfl, show strB ⟨#[97, 98]⟩ = [97, 98] from rfl] at hwr4
  have HZ3 := Lib.hid hz3; clear hz3
  go_wp2_with fail
  refine (of_at _ w4.heap.size 0 2 [1, 9] (by simp) (by simp [maxLen]) (by simp) ?ints).mono ?_
  case ints =>
    intro i hi
    match i, hi with
    | 0, _ => exact (cell_of_row _ w4.heap.size 0 _ _ (0, 0) (heap_alloc_new w4 _)).trans rfl
    | 1, _ => exact (cell_of_row _ w4.heap.size 1 _ _ (0, 0) (heap_alloc_new w4 _)).trans rfl
  rintro e w5 ⟨sv, rfl, hsv, hsb, hk5⟩
  rw [mask_19] at hsv
  have hk45 : Kept (fun _ => False) w4 w5 := (Kept.alloc (fun _ => False) w4 _).then hk5
  have hwr5 := hwr4.kept hk45 (fun h => h) (fun _ _ h => h)
  have hlt5 := hwr5.lt
  go_wp2_with fail
  refine (wset_any sv 514 (by rw [← mask_19]; exact maskOf_small _) w5 w.heap.size v4 w.heap.size _ hwr5 hsv (by simp [enc_300, HZ3.out, enc_small (n := 2) (by decide)]) (by omega)).mono ?_
  rintro e w6 ⟨rfl, v6, hwr6, hs6⟩
  have hxs := awake_bytes
  have hwr6' : Wr w6 w.heap.size v6 w.heap.size [130, 44, 5, 2, 97, 98, 2, 2, 2] := by rw [← hxs]; exact hwr6
  clear hxs hwr6
  have hlt6 := hwr6'.lt
  have hk16 : Kept (fun _ => False) w w6 := by
    have s14 := (hs2.trans hs3).trans hs4
    have k14 : Kept (fun _ => False) w w4 := hk1.trans s14.kept (fun _ _ h => h) fun i hi h => by
      rcases h with h | h
      · omega
      · simp [blk, Value.ownBlock] at h
    have r14 : ∀ k, v4.ownBlock = some k → w.heap.size ≤ k := fun k hk => (hwr4.own.lt k hk).1
    exact (k14.then hk45).trans hs6.kept (fun _ _ h => h) fun i hi h => by
      rcases h with h | h
      · omega
      · have := r14 i h; omega
  have HK16 := Lib.hid hk16; clear hk16 hs2 hs3 hs4 hs6 hk45 hk5 hk1 hwr1 hwr2 hwr3 hwr4 hwr5 hlt3 hlt4 hlt5 hsb hsv HZ3
  go_wp2_with fail
  refine (newReader_any _ _ [128, 5] (reads_lit w6 _ _ [128, 5] 2 rfl rfl (by simp [maxLen])) (by simp)).mono ?_
  rintro e w7 ⟨rb, rv, rfl, hrd7, hrb, hrv, hk7⟩
  have hk67 : Kept (fun _ => False) w6 w7 := (Kept.alloc (fun _ => False) w6 _).then hk7
  simp at hrb hrv
  go_wp2_with fail
  refine (ruint_any w7 rb rv [128, 5] 0 1000 hrd7 (by simp)).mono ?_
  rw [awake_read]
  rintro e w8 ⟨rfl, rv8, hrd8, hrb8, hk8⟩
  have hwr8 : Wr w8 w.heap.size v6 w.heap.size [130, 44, 5, 2, 97, 98, 2, 2, 2] := by
    refine (hwr6'.kept hk67 (fun h => h) (fun _ _ h => h)).kept hk8 (by omega) (fun k hk e => ?_)
    have := (hwr6'.own.lt k hk).2
    omega
  have HWR8 := Lib.hid hwr8; clear hwr8
  go_wp2_with fail
  refine (out_any w8 w.heap.size v6 _ HWR8.out.reads (by simp) HWR8.out.cell).mono ?_
  rintro e w9 ⟨v9, rfl, hf9, hk9⟩
  have hrd9 := hrd8.kept hk9 (fun h => h) (fun _ _ h => h)
  go_wp2_with fail
  have hr9 := hf9.reads.kept (Kept.alloc (fun _ => False) w9 (.cells (bv [130, 44, 5, 2, 97, 98, 2, 2, 2]).toArray 5)) (fun _ _ h => h)
  have hrd10 := hrd9.kept (Kept.alloc (fun _ => False) w9 (.cells (bv [130, 44, 5, 2, 97, 98, 2, 2, 2]).toArray 5)) (fun h => h) (fun _ _ h => h)
  refine (same_any _ v9 _ [130, 44, 5, 2, 97, 98, 2, 2, 2] [130, 44, 5, 2, 97, 98, 2, 2, 2] hr9 (reads_lit w9 _ _ _ 9 rfl rfl (by simp [maxLen])) (by simp) (by simp)).mono ?_
  rintro e w10 ⟨rfl, rfl⟩
  have hk0 : Kept (fun _ => False) w (w9.alloc (.cells (bv [130, 44, 5, 2, 97, 98, 2, 2, 2]).toArray 5)) := by
    refine ((HK16.out.then hk67).trans hk8 (fun _ _ h => h) fun i hi h => ?_).then (hk9.then (Kept.alloc _ _ _))
    omega
  have c1 := hrd10.cell1
  obtain ⟨ra, rc, c0⟩ : ∃ a c, (w9.alloc (.cells (bv [130, 44, 5, 2, 97, 98, 2, 2, 2]).toArray 5)).cell? ⟨rb, 0, none⟩ = some (.slice a 2 c) := by
    rcases hrd10.reads with ⟨_, h⟩ | ⟨g, off, cap, h, _⟩
    · cases h
    · exact ⟨_, _, by rw [hrd10.cell0, h]; rfl⟩
  have C0 := Lib.hid c0; have C1 := Lib.hid c1
  clear c0 c1
  go_wp2_with fail
  refine (err_any _ rb 6 C1.out).mono ?_
  rintro e w11 ⟨rfl, rfl⟩
  go_wp2_with fail
  refine (left_any _ rb ra 2 rc C0.out).mono ?_
  rintro e w11 ⟨rfl, rfl⟩
  go_wp2_with fail
  go_ret
  exact ⟨rfl, hk0⟩

end Go.Proofs.YtnmcihfegbdipaaDoor
/-
  arbaclaw02.WireReads: the walk.
-/
namespace Go.Proofs.YtnmcihfegbdipaaDoor
open Go.RowKit
set_option linter.unusedVariables false
set_option linter.unusedSimpArgs false

/-- The head of the list of calls. -/
theorem Cls.form {w : World} {v : Value} {N : Nat} (h : Cls w v N) : ∃ a c, v = .slice a N c ∧ ∀ i, i < N → ∃ g off, a = some ⟨g, off, none⟩ ∧ N ≤ 9223372036854775807 ∧ ∃ k m lo, CallAt w g (off + i * 3) k m lo := by
  rcases h with ⟨⟨a, c, rfl⟩, rfl⟩ | ⟨g, off, cap, rfl, ⟨h1, h2⟩, h3⟩
  · exact ⟨_, _, rfl, fun i hi => by omega⟩
  · exact ⟨_, _, rfl, fun i hi => ⟨g, off, rfl, by omega, h3 i hi⟩⟩

/-- What the loop of the calls keeps. -/
def RdInv (w wr : World) (rb mb : Nat) : Prop := ∃ v u xs err, Two wr rb mb v u xs err ∧ Kept (fun _ => False) w wr
theorem RdInv.next {w wr w1 : World} {rb mb : Nat} {v u : Value} (hk : Kept (fun _ => False) w wr) (hr : w.heap.size ≤ rb) (hm : w.heap.size ≤ mb) (h : TwoRes wr w1 rb mb v u) : RdInv w w1 rb mb := by
  obtain ⟨v', u', xs', err', h1, _, _, h2⟩ := h
  exact ⟨v', u', xs', err', h1, hk.trans h2 (fun _ _ h => h) fun i hi e => by rcases e with e | e <;> omega⟩
theorem RdInv.drewN {w wr : World} {rb mb : Nat} (n : Nat) (h : RdInv w wr rb mb) : RdInv w (wr.drewN n) rb mb := by
  obtain ⟨v, u, xs, err, h1, h2⟩ := h
  have hk : Kept (fun _ => False) wr (wr.drewN n) := (Kept.refl _ _).drewN n
  exact ⟨v, u, xs, err, ⟨h1.r.kept hk (fun h => h) (fun _ _ h => h), h1.m.kept hk (fun h => h) (fun _ _ h => h), h1.ne, h1.va, h1.ua, h1.byte, h1.len⟩, h2.then hk⟩

theorem own_lower {W : World} {B B' : Nat} {e : TypeId} {v : Value} {n : Nat} {xs : List Value} (h : W.ownsRow B e 1 v n xs) (hB : B' ≤ B) : W.ownsRow B' e 1 v n xs := by
  refine ⟨h.1, ?_⟩
  rcases h.2 with e | ⟨g, cap, cur, e, hb, r⟩
  · exact Or.inl e
  · exact Or.inr ⟨g, cap, cur, e, Nat.le_trans hB hb, r⟩
/-- A row of bytes of one's own, whatever they are. -/
def OwnB (W : World) (B : Nat) (a : Option Addr) (n c : Nat) : Prop := ∃ zs : List Int, W.ownsRow B 5 1 (.slice a n c) n (zs.map fun z => Value.int .u8 z)
theorem OwnB.drew {W : World} {B : Nat} {a : Option Addr} {n c : Nat} (h : OwnB W B a n c) : OwnB W.drew B a n c := h

theorem Two.drew {w : World} {rb mb : Nat} {v u : Value} {xs : List Nat} {err : Int} (h : Two w rb mb v u xs err) : Two w.drew rb mb v u xs err := ⟨h.r.drew, h.m.drew, h.ne, h.va, h.ua, h.byte, h.len⟩
theorem agree_call (w : World) (rb mb k : Nat) (v u : Value) (xs : List Nat) (err m lo : Int) (h : Two w rb mb v u xs err) (hT : Tz w) (hg : ¬ 1 = rb ∧ ¬ 1 = mb) (hm : m < 9223372036854775808) :
    Calls Tryd.prog 23 #[.pointer (some ⟨rb, 0, none⟩), .pointer (some ⟨mb, 0, none⟩), .agg #[.int .u8 k, .int .i64 m, .int .i64 lo]] w fun e w' => e = .returned (.bool true) ∧ TwoRes w w' rb mb v u := agree_any w rb mb k v u xs err m lo h hT hg hm

set_option maxRecDepth 100000 in
set_option maxHeartbeats 6400000 in
theorem reads_any (v lv : Value) (ps : List Nat) (N : Nat) (w : World) (hp : InBytes w v ps) (hl : Cls w lv N) (hT : Tz w) :
    Calls Tryd.prog 5 #[v, lv] w fun e w' => e = .returned (.bool true) ∧ Below w.heap.size w w' := by
  have HP := Lib.hid hp; clear hp
  have HT := Lib.hid hT; clear hT
  obtain ⟨xs, hxs⟩ : ∃ xs, xs = ps.take 300 := ⟨_, rfl⟩
  have hxl : xs.length ≤ 300 := by rw [hxs]; simp; omega
  have hxb : ∀ b ∈ xs, b < 256 := fun b hb => HP.out.byte b (by rw [hxs] at hb; exact List.mem_of_mem_take hb)
  have HXB := Lib.hid hxb; have HXS := Lib.hid hxs; have HXL := Lib.hid hxl; clear hxb hxs
  obtain ⟨la, lc, rfl, hcall⟩ := hl.form
  have HCALL := Lib.hid hcall; clear hcall hl
  have hplt := HP.out.reads.lt
  go_enter Tryd.func5, Tryd.ntmps5
  go_wp2_with fail
  refine (awake_any w).mono ?_
  rintro e w0 ⟨rfl, hk0⟩
  have hr0 := HP.out.reads.kept hk0 (fun _ _ h => h)
  go_wp2_with fail
  refine (short_any w0 v ps hr0).mono ?_
  rintro e w1 ⟨p, rfl, hrp, hpo, hw1⟩
  subst hw1
  rw [← HXS.out] at hrp
  obtain ⟨a4, c4, w4, hr4, hf4, hk4⟩ := copy_run hrp (by omega)
  obtain ⟨n, hn⟩ : ∃ n, n = xs.length := ⟨_, rfl⟩
  rw [← hn] at hr4 hf4
  obtain ⟨pa, pc, hpf⟩ := hrp.formR8
  rw [← hn] at hpf
  subst hpf
  have hn300 : n ≤ 300 := by omega
  have R4 := Lib.hid hr4; have HF4 := Lib.hid hf4; have HK4 := Lib.hid hk4; have HRP := Lib.hid hrp; have HK0 := Lib.hid hk0; have HPO := Lib.hid hpo
  have HN := Lib.hid hn
  have HPL := Lib.hid hplt
  clear hr4 hf4 hk4 hr0 hrp hk0 hpo hn hxl hplt
  go_wp2_with (at_builtin; refine wpList_append_run (by rfl) _ _ _ _ rfl _ _ rfl rfl R4.out ?_)
  go_wp2_with fail
  refine (newReader_any w4 _ xs HF4.out.reads (by have := HXL.out; omega)).mono ?_
  rintro e w5 ⟨rb, rv, rfl, hrd5, hrb5, hrv5, hk5⟩
  have HR5 := Lib.hid hrd5; have HK5 := Lib.hid hk5
  have hs5 : rb < w5.heap.size := hrd5.lt
  have hs4 := HK4.out.size
  have hs0 := HK0.out.size
  have HV5 : Hid (∀ k, rv.ownBlock = some k → w4.heap.size ≤ k ∧ k < w5.heap.size) := fun k hk => ⟨hrv5 k hk, hrd5.reads.lt k hk⟩
  have hs45 := hk5.size
  clear hrd5 hk5 hrv5
  obtain ⟨w6, hw6⟩ : ∃ w6, w6 = w5.alloc (.cells #[.slice pa n pc, .int .i64 0] 48) := ⟨_, rfl⟩
  have hk6 : Kept (fun _ => False) w5 w6 := by rw [hw6]; exact Kept.alloc _ _ _
  have hrp6 : Reads w6 (.slice pa n pc) xs := (HRP.out.kept HK4.out (fun _ _ h => h)).kept (HK5.out.then hk6) (fun _ _ h => h)
  have hpb : ∀ k, (Value.slice pa n pc).ownBlock = some k → k < w.heap.size := fun k hk => HPL.out k (by rw [← HPO.out]; exact hk)
  have hmd : Rd w6 w5.heap.size (.slice pa n pc) xs 0 := by
    rw [hw6] at hrp6 ⊢
    exact ⟨by go_simp, by go_simp, by go_simp, by go_simp, hrp6, fun e => by have := hpb _ e; omega⟩
  have hrd6 : Rd w6 rb rv xs 0 := HR5.out.kept hk6 (fun h => h) (fun _ _ h => h)
  have htwo : Two w6 rb w5.heap.size rv (.slice pa n pc) xs 0 := ⟨hrd6, hmd, by omega, fun e => by have := HV5.out _ e; omega, fun e => by have := hpb _ e; omega, HXB.out, HXL.out⟩
  have HTWO := Lib.hid htwo
  have HK6 := Lib.hid (((HK0.out.then HK4.out).then HK5.out).then hk6)
  have hs6 := hk6.size
  have hown : OwnB w6 w.heap.size a4 n c4 := by
    refine ⟨xs.map fun x : Nat => (x : Int), ?_⟩
    have h := ((hk6).owns (HK5.out.owns (own_lower HF4.out.own (show w.heap.size ≤ w0.heap.size from hs0)) (fun _ _ h => h)) (fun _ _ h => h))
    rw [← HN.out] at h
    rw [bv_ints]
    exact h
  have HOWN := Lib.hid hown
  have HOB : Hid (∀ k, (Value.slice a4 n c4).ownBlock = some k → w0.heap.size ≤ k ∧ k < w4.heap.size) := fun k hk => ⟨HF4.out.block k hk, HF4.out.reads.lt k hk⟩
  obtain ⟨mb, hmb⟩ : ∃ mb, mb = w5.heap.size := ⟨_, rfl⟩
  have hrbw : w.heap.size ≤ rb := by omega
  have hmbw : w.heap.size ≤ mb := by omega
  have hrb4 : w4.heap.size ≤ rb := hrb5
  have hmb4 : w4.heap.size ≤ mb := by omega
  have HW6 := Lib.hid hw6
  clear hk6 hrp6 hmd hrd6 htwo hown hw6 hpb hs5 hs4 hs45 hs6 HPL HR5 HK5 HRP
  go_wp2_with fail
  rw [← HW6.out, ← hmb]
  rw [← hmb] at HTWO
  have HMB := Lib.hid hmb
  clear hmb
  go_loopw [24] (fun iv wr => ∃ k : Nat, k ≤ n ∧ iv = .int .i64 k ∧ Hid (OwnB wr w.heap.size a4 n c4) ∧ Hid (Kept (fun k => (Value.slice a4 n c4).ownBlock = some k) w6 wr)) (fun iv _ => n - (intOf iv).toNat)
  case atStart => exact ⟨0, by omega, rfl, HOWN, Lib.hid (Kept.refl _ _)⟩
  case round =>
    obtain ⟨k, hk, rfl, ho, hkr⟩ := hrel
    by_cases hlt : k < n
    · have l1 : (k : Int) < (n : Int) := by omega
      have l0 : (0 : Int) ≤ (k : Int) := by omega
      obtain ⟨zs, hzs⟩ := ho.out
      have hgb : ∃ gb, a4 = some ⟨gb, 0, none⟩ := by
        obtain ⟨_, hh⟩ := hzs
        rcases hh with ⟨_, h0⟩ | ⟨g, cap, cur, he, _⟩
        · omega
        · cases he; exact ⟨g, rfl⟩
      obtain ⟨gb, rfl⟩ := hgb
      have hzl : zs.length = n := by have := hzs.1; simpa using this
      have ck : wr.cell? ⟨gb, k, none⟩ = some (.int .u8 (zs.getD k 0)) := by
        rw [hzs.cellAt k (by omega)]
        simp [List.getD, show k < zs.length by omega]
      have fk : wr.frozen? ⟨gb, k, none⟩ = false := hzs.frozenAt k
      generalize zs.getD k 0 = z at ck
      have hst := (hzs.stored k (.int .u8 (bits .xor .u8 z 85))).1
      rw [show (zs.map fun z => Value.int .u8 z).set k (.int .u8 (bits .xor .u8 z 85)) = (zs.set k (bits .xor .u8 z 85)).map fun z => Value.int .u8 z from by rw [List.map_set]] at hst
      have HST := Lib.hid hst
      have HKR := Lib.hid (hkr.out.trans (Kept.setCell (fun k => (Value.slice (some ⟨gb, 0, none⟩) n c4).ownBlock = some k) wr ⟨gb, k, none⟩ (.int .u8 (bits .xor .u8 z 85)) rfl) (fun _ _ h => h) (fun _ _ h => h))
      clear hst hzs ho hkr hzl
      go_wp2_with fail
      go_roundw
      case rel => exact ⟨k + 1, by omega, by go_num, Lib.hid ⟨_, HST.out⟩, HKR⟩
      case measure => simp [intOf]; omega
    · obtain rfl : n = k := by omega
      have HKR := Lib.hid hkr.out
      clear ho hkr
      obtain ⟨wx, hwx⟩ : ∃ wx : World, wx = wr := ⟨_, rfl⟩
      rw [← hwx] at HKR ⊢
      have hob : ∀ j, (Value.slice a4 n c4).ownBlock = some j → w0.heap.size ≤ j ∧ j < w4.heap.size := HOB.out
      have htwo : Two wx rb mb rv (.slice pa n pc) xs 0 := by
        have h := HTWO.out
        refine ⟨h.r.kept HKR.out (fun e => by have := hob _ e; omega) (fun j hj e => by have := HV5.out _ hj; have := hob _ e; omega), h.m.kept HKR.out (fun e => by have := hob _ e; omega) (fun j hj e => ?_), h.ne, h.va, h.ua, h.byte, h.len⟩
        have h1 := HP.out.reads.lt j (by rw [← HPO.out]; exact hj)
        have h2 := hob _ e
        omega
      have hkx : Kept (fun _ => False) w wx := HK6.out.trans HKR.out (fun _ _ h => h) (fun j hj e => by have := hob _ e; omega)
      have HI := Lib.hid (show RdInv w wx rb mb from ⟨rv, .slice pa n pc, xs, 0, htwo, hkx⟩)
      clear hob htwo hkx HKR hwx
      go_wp2_with fail
      go_loopw [9] (fun iv wr => ∃ i : Nat, i ≤ 30 ∧ iv = .int .i64 i ∧ Hid (RdInv w wr rb mb)) (fun iv _ => 30 - (intOf iv).toNat)
      case atStart => exact ⟨0, by omega, rfl, HI⟩
      case round =>
        obtain ⟨i, hi, rfl, hinv⟩ := hrel
        by_cases hlt : i < N ∧ i < 30
        · have hl1 : (i : Int) < (N : Int) := by omega
          have hl2 : (i : Int) < 30 := by omega
          have hl0 : (0 : Int) ≤ (i : Int) := by omega
          obtain ⟨g, off, rfl, hN, kk, m, lo, hca⟩ := HCALL.out i hlt.1
          obtain ⟨v1, u1, ys, err, htwo, hkw⟩ := hinv.out
          have hc0 := (hkw.cell (p := ⟨g, off + i * 3, none⟩) (World.block_lt_of_cell? w _ hca.c0) (fun h => h)).trans hca.c0
          have hc1 := (hkw.cell (p := ⟨g, off + i * 3 + 1, none⟩) (World.block_lt_of_cell? w _ hca.c1) (fun h => h)).trans hca.c1
          have hc2 := (hkw.cell (p := ⟨g, off + i * 3 + 2, none⟩) (World.block_lt_of_cell? w _ hca.c2) (fun h => h)).trans hca.c2
          have HM := Lib.hid hca.hm
          have HKW := Lib.hid hkw
          have htw2 := htwo
          have HTZ := Lib.hid (HT.out.kept hkw (fun h => h))
          have hgl := HT.out.lt
          have HG : Hid (¬ 1 = rb ∧ ¬ 1 = mb) := ⟨by omega, by omega⟩
          clear hca hkw htwo hinv HI hgl
          have HTD := Lib.hid (htw2.drew)
          have HTZD := Lib.hid (show Tz wr.drew from HTZ.out.kept (Kept.refl (fun _ => False) wr).drew (fun h => h))
          clear htw2
          go_wp2_with fail
          go_region_with ((first | (go_at_call 23; refine (agree_call wr.drew rb mb kk v1 u1 ys err m lo HTD.out HTZD.out HG.out HM.out).mono ?_; rintro e w1 ⟨rfl, hres⟩; obtain ⟨v2, u2, zs, err2, h1, hv2, hu2, k1⟩ := hres; have HR1 := Lib.hid (RdInv.next (HKW.out.drew) hrbw hmbw ⟨v2, u2, zs, err2, h1, hv2, hu2, k1⟩); clear hv2 hu2 k1; obtain ⟨ua, uc, rfl⟩ := h1.m.reads.formR8; obtain ⟨ra, rc, rfl⟩ := h1.r.reads.formR8; have d0 := h1.m.cell0; have d1 := h1.m.cell1; have e0 := h1.r.cell0; have e1 := h1.r.cell1; clear h1) | (go_at_call 24; refine (err_any w1 rb err2 e1).mono ?_; rintro e w2 ⟨rfl, rfl⟩) | (go_at_call 25; refine (left_any w1 rb ra zs.length rc e0).mono ?_; rintro e w2 ⟨rfl, rfl⟩)))
          all_goals
            go_wp2_with fail
            go_roundw
            case rel => exact ⟨i + 1, by omega, by go_num, HR1⟩
            case measure => simp [intOf]; omega
        · obtain ⟨v1, u1, ys, err, htwo, hkw⟩ := hinv.out
          have HTW := Lib.hid htwo
          have HKW := Lib.hid hkw
          have hcase : (¬ (i : Int) < (N : Int)) ∨ ((i : Int) < (N : Int) ∧ ¬ (i : Int) < 30) := by omega
          obtain ⟨q, hq⟩ : ∃ q : Int, q = (if err = 0 ∧ 0 < ys.length then 6 else err) := ⟨_, rfl⟩
          have h1 := end_any wr rb v1 ys err HTW.out.r
          have h2 := mend_any wr mb u1 ys err HTW.out.m
          rw [← hq] at h1 h2
          have H1 := Lib.hid h1; have H2 := Lib.hid h2
          clear htwo hkw hinv HI h1 h2 hq
          rcases hcase with hc | ⟨hc, hc2⟩
          all_goals
            go_wp2_with fail
            refine H1.out.mono ?_
            rintro e w' ⟨rfl, rfl⟩
            go_wp2_with fail
            refine H2.out.mono ?_
            rintro e w' ⟨rfl, rfl⟩
            go_wp2_with fail
            go_ret
            exact ⟨by first | rfl | simp [go_sem], HKW.out.below (Nat.le_refl _) (fun _ h => h.elim)⟩
end Go.Proofs.YtnmcihfegbdipaaDoor
/-
  A slice of bytes that came in. (As in CrcCard, without the tables.)
-/
namespace Go.Proofs.YtnmcihfegbdipaaDoor
open Go.ChangeShapes Go.WideShapes Go.ChangeAt Go.RowKit Go.Joins

set_option maxRecDepth 100000 in
/-- A slice of bytes that came in: it reads as bytes. -/
theorem bytes_in {H : Type} {enc : TypeId × Value → H} {W : World} {base : Nat} {v : Value} {d : DataW H} {p : List MemPlace} (o : Value.okWide Tryd.prog W .any base 38 v) (h : DataW.Trod enc Tryd.prog W 0 (fun _ => true) true 38 v d p) :
    ∃ a len cap xs, v = .slice a len cap ∧ InBytes W (.slice a len cap) xs := by
  obtain ⟨a, len, cap, rfl⟩ := okWide_slice Tryd.underlying38 o
  have o' := o
  obtain ⟨fuel, hf⟩ := h
  rcases open_ints Tryd.underlying38 Tryd.underlying5 (by kernel_rfl) hf with ⟨hcs, _⟩ | ⟨x, l, c, zs, hcs, _, hl, hm, hz, _, hcell, hwz⟩
  · simp [Value.cells] at hcs
    obtain ⟨rfl, rfl, rfl⟩ := hcs
    obtain ⟨xs, hx⟩ := in_bytes Tryd.underlying38 o' (zs := []) (.inl ⟨rfl, rfl, rfl, rfl⟩)
    exact ⟨_, _, _, xs, rfl, hx⟩
  · simp [Value.cells] at hcs
    obtain ⟨rfl, rfl, rfl⟩ := hcs
    obtain ⟨xs, hx⟩ := in_bytes Tryd.underlying38 o' (zs := zs) (.inr ⟨_, rfl, hl, hm, by simpa using hz, hcell, hwz⟩)
    exact ⟨_, _, _, xs, rfl, hx⟩
end Go.Proofs.YtnmcihfegbdipaaDoor
