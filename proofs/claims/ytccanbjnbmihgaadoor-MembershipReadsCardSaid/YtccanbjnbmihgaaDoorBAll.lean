/-
  bits.Set.All: the members come in ascending order, one by one, as far as the consumer asks.
-/
import Derived.Test.YtccanbjnbmihgaaDoorBTz
import Derived.Test.YtccanbjnbmihgaaDoorBSeq
import Derived.Test.YtccanbjnbmihgaaDoorOf
namespace Go.Proofs.YtccanbjnbmihgaaDoor
open Go.RowKit Go.Shelf
attribute [local go_sem] Oper.semAt_some

theorem kept_grown {a b : World} (h : Kept (fun _ => False) a b) : a.grownBy b none :=
  ⟨h.os, h.tape, h.output, h.size, fun k hk _ => h.block k hk (fun h => h)⟩

/-- What the iterator reads: the set in its box, its words, the library's table. -/
structure AllAt (W : World) (B : Nat) (M : Nat) (hv : Value) (hs : List Nat) : Prop where
  c0 : W.cell? ⟨B, 0, none⟩ = some (.int .u64 (M % 2 ^ 64 : Nat))
  c1 : W.cell? ⟨B, 1, none⟩ = some hv
  words : Words W hv hs
  can : Canon hs (M / 2 ^ 64)
  tz : Tz W
theorem AllAt.kept {S : Nat → Prop} {a b : World} {B M : Nat} {hv : Value} {hs : List Nat} (h : AllAt a B M hv hs) (hk : Kept S a b) (h1 : ¬ S B) (h2 : ∀ k, hv.ownBlock = some k → ¬ S k) (h3 : ¬ S 0) : AllAt b B M hv hs := by
  have hB := World.block_lt_of_cell? a _ h.c0
  exact ⟨(hk.cell (p := ⟨B, 0, none⟩) hB h1).trans h.c0, (hk.cell (p := ⟨B, 1, none⟩) hB h1).trans h.c1, h.words.kept hk h2, h.can, h.tz.kept hk h3⟩
theorem AllAt.on {a b : World} {B M : Nat} {hv : Value} {hs : List Nat} (h : AllAt a B M hv hs) (hk : Kept (fun _ => False) a b) : AllAt b B M hv hs := h.kept hk (fun h => h) (fun _ _ h => h) (fun h => h)

/-- What a round's contract gives the iterator. -/
def RoundOf (l N : Nat) (Kp : World → World → Prop) (J Jx : List Int → World → Prop) : Prop :=
  ∀ pre x W, J pre W → pre.length < N → 0 ≤ x → x ≤ 4095 → YieldAt Fence.wide 1 Tryd.prog l #[Value.int .i64 x] W fun e W' =>
    (e = .returned (.bool true) ∧ J (pre ++ [x]) W' ∧ Kp W W') ∨ (e = .returned (.bool false) ∧ Jx (pre ++ [x]) W')

set_option maxRecDepth 100000 in
set_option maxHeartbeats 6400000 in
theorem all1_in (l B M : Nat) (va : Option Addr) (vc : Nat) (hs : List Nat) (Kp : World → World → Prop) (J Jx : List Int → World → Prop) (W : World)
    (hY : RoundOf l (memM M (64 * (1 + hs.length))).length Kp J Jx)
    (hKp : ∀ a b, Kp a b → AllAt a B M (.slice va hs.length vc) hs → AllAt b B M (.slice va hs.length vc) hs)
    (hJ : ∀ pre a b, W.heap.size ≤ a.heap.size → J pre a → Kept (fun _ => False) a b → J pre b)
    (hKs : ∀ a b, Kp a b → a.heap.size ≤ b.heap.size)
    (hA : AllAt W B M (.slice va hs.length vc) hs) (hl : hs.length ≤ 63) (h0 : J [] W) :
    CallsIn Fence.wide 2 Tryd.prog 86 #[.func (.yield l) #[] #[], .pointer (some ⟨B, 0, none⟩)] W fun e W' => (∃ v, e = .returned v) ∧
      ((∃ ys, ys = memM M (64 * (1 + hs.length)) ∧ J ys W') ∨ (∃ pre, pre <+: memM M (64 * (1 + hs.length)) ∧ Jx pre W')) := by
  obtain ⟨n, hn⟩ : ∃ n, n = hs.length := ⟨_, rfl⟩
  rw [← hn] at hY hKp hA hl ⊢
  have HN := Lib.hid hn
  clear hn
  have HY := Lib.hid hY; have HKP := Lib.hid hKp; have HJ := Lib.hid hJ; have HA := Lib.hid hA; have HKS := Lib.hid hKs
  have H0 : Hid (J (memM M (64 * 0)) W) := h0
  clear hY hKp hJ hA h0 hKs
  have c0 := HA.out.c0; have c1 := HA.out.c1
  obtain ⟨lo, hlo⟩ : ∃ lo, lo = M % 2 ^ 64 := ⟨_, rfl⟩
  rw [← hlo] at c0
  have HLO := Lib.hid hlo
  clear hlo
  refine callsIn_of_wp Tryd.func86 rfl trivial ?_ rfl
  simp only [Tryd.ntmps86, List.size_toArray, List.length_cons, List.length_nil, Nat.reduceAdd, Nat.reduceSub, Array.replicate_succ, Array.replicate_zero, List.push_toArray, List.append_toArray, List.nil_append, List.cons_append]
  gi_wp2_with (refine ⟨trivial, ?_⟩; gi_at_call 87; refine (callsIn_wide.2 (words_any _ lo n vc va (by omega))).mono ?_; rintro e w1 ⟨rfl, hk1⟩)
  have HA1 := Lib.hid (HA.out.on hk1)
  have H1 : Hid (J (memM M (64 * 0)) w1) := HJ.out _ _ _ (Nat.le_refl _) H0.out hk1
  have hs1 : W.heap.size ≤ w1.heap.size := hk1.size
  clear hk1 H0 HA c0 c1
  gi_loopw [7] (fun kv wr => ∃ k : Nat, k ≤ n + 1 ∧ kv = .int .i64 k ∧ W.heap.size ≤ wr.heap.size ∧ Hid (AllAt wr B M (.slice va n vc) hs) ∧ Hid (J (memM M (64 * k)) wr)) (fun kv _ => n + 1 - (intOf kv).toNat)
  case atStart => exact ⟨0, by omega, rfl, hs1, HA1, H1⟩
  case round =>
    obtain ⟨k, hk, rfl, hsz, hat, hj⟩ := hrel
    clear HA1 H1
    by_cases hlt : k < n + 1
    · have l1 : (k : Int) < 1 + (n : Int) := by omega
      have c0 := hat.out.c0; have c1 := hat.out.c1
      rw [← HLO.out] at c0
      have hwd := wd_word M hs hat.out.can k
      rw [← HLO.out] at hwd
      have HWD := Lib.hid (word_any wr lo (.slice va n vc) hs k hat.out.words (by omega))
      change wd lo hs k = M / 2 ^ (64 * k) % 2 ^ 64 at hwd
      rw [hwd] at HWD
      have hy64 : M / 2 ^ (64 * k) % 2 ^ 64 < 2 ^ 64 := Nat.mod_lt _ (Nat.pow_pos (by omega))
      have hnx := fun t => memM_next (M := M) (k := k) (t := t)
      have hrs := fun t => memM_rest (M := M) (k := k) (t := t)
      have HNX := Lib.hid hnx; have HRS := Lib.hid hrs
      clear hwd hnx hrs
      obtain ⟨y, hy⟩ : ∃ y, y = M / 2 ^ (64 * k) % 2 ^ 64 := ⟨_, rfl⟩
      rw [← hy] at HWD hy64 HNX HRS
      clear hy
      obtain ⟨wo, hwo⟩ : ∃ wo : World, wo = wr := ⟨_, rfl⟩
      rw [← hwo] at hsz hat hj c0 c1 HWD ⊢
      clear hwo
      gi_wp2_with (refine ⟨trivial, ?_⟩; gi_at_call 64; refine (callsIn_wide.2 HWD.out).mono ?_; rintro e w2 ⟨rfl, hk2⟩)
      have HA2 := Lib.hid (hat.out.on hk2)
      have H2 : Hid (J (memM M (64 * k + 0)) w2) := HJ.out _ _ _ hsz hj.out hk2
      have hs2 : W.heap.size ≤ w2.heap.size := Nat.le_trans hsz hk2.size
      clear hk2 hat hj c0 c1 HWD
      gi_loopw [4] (fun yv wr => ∃ t : Nat, t ≤ 64 ∧ yv = .int .u64 (cutW y t : Nat) ∧ W.heap.size ≤ wr.heap.size ∧ Hid (AllAt wr B M (.slice va n vc) hs) ∧ Hid (J (memM M (64 * k + t)) wr)) (fun yv _ => (intOf yv).toNat)
      case atStart => exact ⟨0, by omega, by rw [cutW_zero], hs2, HA2, H2⟩
      case round =>
        obtain ⟨t, ht, rfl, hsz, hat, hj⟩ := hrel
        clear HA2 H2
        by_cases hz : cutW y t = 0
        · have hrest := HRS.out t ht hz
          have HJ3 : Hid (J (memM M (64 * (k + 1))) wr) := by show J _ _; rw [hrest]; exact hj.out
          clear hrest hj
          rw [hz]
          clear hz
          gi_wp2
          go_roundw
          case rel => exact ⟨k + 1, by omega, by go_num, hsz, hat, HJ3⟩
          case measure => simp [intOf]; omega
        · obtain ⟨g1, g2, g3, g4⟩ := HNX.out t hz
          have hdec := cutW_dec hz _ g4
          have hple := memM_prefix M (a := 64 * k + Lib.ctz 64 (cutW y t) + 1) (b := 64 * (1 + n)) (by omega)
          have hlen := hple.length_le
          rw [g3, List.length_append, List.length_singleton] at hlen
          rw [g3] at hple
          have hcy := cutW_le y t
          have HL := Lib.hid (fun (w : World) (h : Tz w) => leastIn_any (cutW y t) k (by omega) (by omega) (by omega) w h)
          have HTZ := Lib.hid hat.out.tz
          have HP := Lib.hid hple
          generalize Lib.ctz 64 (cutW y t) = j at g1 g2 g3 g4 hdec hlen HL HP
          obtain ⟨x, hx⟩ : ∃ x : Nat, x = 64 * k + j := ⟨_, rfl⟩
          rw [← hx] at g3 HL HP
          have HJ := Lib.hid hj.out; have HAT := Lib.hid hat.out
          obtain ⟨fn, tmps, assign, body, hy, hR⟩ := HY.out (memM M (64 * k + t)) (x : Int) wr hj.out (by omega) (by omega) (by omega)
          have HG3 := Lib.hid g3
          obtain ⟨W2, hW2⟩ : ∃ w, w = cutW y (j + 1) := ⟨_, rfl⟩
          have HW2 := Lib.hid hW2
          rw [← hW2] at g4 hdec
          generalize cutW y t = Wd at g4 hdec hcy HL hz ⊢
          have hzb : ((Wd : Int) != 0) = true := by simp; omega
          obtain ⟨Wm, hWm⟩ : ∃ m, m = Wd - 1 := ⟨_, rfl⟩
          have hsub : IntKind.u64.wrap ((Wd : Int) - 1) = (Wm : Int) := by rw [IntWalk.u64_in _ (by omega)]; omega
          have hand : bits .and .u64 (Wd : Int) (Wm : Int) = (W2 : Int) := by rw [hWm, u64_and_nat _ _ (by omega) (by omega), g4]
          have hand2 : bits .and .u64 (Wd : Int) ((Wd : Int) - 1) = (W2 : Int) := by rw [← hand]; congr 1; omega
          have hHD := Lib.hid hdec
          have HX0 := Lib.hid hx
          clear hj hat g3 hW2 g4 hdec hWm hlen hz hcy hx
          gi_wp2_with (refine ⟨trivial, ?_⟩; gi_at_call 88; refine (callsIn_wide.2 (HL.out wr HTZ.out)).mono ?_; rintro e w4 ⟨rfl, rfl⟩)
          refine hR.mono ?_
          rintro e W3 (⟨rfl, hJ3, hk3⟩ | ⟨rfl, hJx3⟩)
          · have HA3 := Lib.hid (HKP.out _ _ hk3 HAT.out)
            have HJ3 : Hid (J (memM M (64 * k + (j + 1))) W3) := by show J _ _; rw [← Nat.add_assoc, ← HX0.out, HG3.out]; exact hJ3
            have hs3 : W.heap.size ≤ W3.heap.size := Nat.le_trans hsz (HKS.out _ _ hk3)
            clear hJ3 hk3 hy hR
            gi_wp2
            go_roundw
            case rel => exact ⟨j + 1, by omega, by rw [← HW2.out], hs3, HA3, HJ3⟩
            case measure => have := hHD.out; simp [intOf]; omega
          · have HX := Lib.hid hJx3
            clear hJx3 hy hR
            gi_wp2
            refine bodyPost_ret (results_none rfl _ _ _) rfl ?_
            exact ⟨⟨_, rfl⟩, .inr ⟨memM M (64 * k + t) ++ [(x : Int)], HP.out, HX.out⟩⟩
    · have hkn : k = 1 + n := by omega
      have HJ4 := Lib.hid hj.out
      rw [hkn] at HJ4
      have l2 : ¬ (k : Int) < 1 + (n : Int) := by omega
      clear hj hat hkn
      gi_wp2
      go_end0
      first | exact ⟨⟨_, rfl⟩, .inl ⟨_, rfl, HJ4.out⟩⟩ | exact ⟨⟨_, rfl⟩, .inl HJ4.out⟩ | exact .inl HJ4.out
end Go.Proofs.YtccanbjnbmihgaaDoor
