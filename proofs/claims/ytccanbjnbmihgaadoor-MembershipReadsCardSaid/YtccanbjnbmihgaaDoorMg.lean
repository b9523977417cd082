/- The first texts of this claim, one behind the other. -/
import Derived.Test.YtccanbjnbmihgaaDoorBAll
import Derived.Laws.BitsAllLaws
import Derived.Test.YtccanbjnbmihgaaDoorOf
import Derived.BigQuiet
import Derived.Deep.RegionHeld3
import Derived.Deep.DrawnRows
import Derived.Laws.MakeOwn
import Derived.Test.YtccanbjnbmihgaaDoorBTxL
import Derived.Laws.IdiomStrings
import Derived.Test.YtccanbjnbmihgaaDoorMbO
import Derived.Test.YtccanbjnbmihgaaDoorMbW
import Derived.Test.YtccanbjnbmihgaaDoorMbY
import Derived.Test.YtccanbjnbmihgaaDoorMbZ
import Derived.Test.YtccanbjnbmihgaaDoorCore
import Derived.Test.YtccanbjnbmihgaaDoorRows
import Derived.Outline
import Derived.WalkLawsBesides
import Derived.WalkSpells
import Derived.IntWalk
import Derived.ProofKit
import Derived.Lib.LaidTab
import Derived.Lib.LaidU8
import Derived.Lay
import Derived.LaidMore
import Derived.LaidLaws
import Derived.MakeChecks
import Derived.OpenShut
import Derived.ChangeOld
import Derived.Below
import Derived.Stop.Joined
import Derived.Test.YtccanbjnbmihgaaDoorMbR
import Derived.Test.YtccanbjnbmihgaaDoorMake
import Derived.Test.YtccanbjnbmihgaaDoorNum
import Derived.Maps.AppendAt
import Derived.Laws.AppendOwnNone
import Derived.Deep.AppendLies
import Derived.Test.YtccanbjnbmihgaaDoorBits
import Derived.Test.YtccanbjnbmihgaaDoorMbQ
import Derived.Test.YtccanbjnbmihgaaDoorMbT
import Derived.Test.YtccanbjnbmihgaaDoorMbU
import Derived.Test.YtccanbjnbmihgaaDoorMbF
import Derived.Test.YtccanbjnbmihgaaDoorMbA
import Derived.Laws.StructEq
import Derived.Deep.QuietTactic
import Derived.StillTailTactics
import Derived.ChangeMaps5
import Derived.Lib.SmallJoins
import Derived.Deep.Slices
/-
  math/bits.OnesCount64: what it computes, step by step.
-/
namespace Go.Proofs.YtccanbjnbmihgaaDoor
open Go.RowKit

/-- What OnesCount64 computes. -/
def pop1 (x : Nat) : Nat := (x / 2 &&& 6148914691236517205) + (x &&& 6148914691236517205)
def pop2 (x : Nat) : Nat := (x / 4 &&& 3689348814741910323) + (x &&& 3689348814741910323)
def pop3 (x : Nat) : Nat := (x / 16 + x) &&& 1085102592571150095
def popS (x : Nat) : Nat :=
  (pop3 (pop2 (pop1 x)) + pop3 (pop2 (pop1 x)) / 256 + (pop3 (pop2 (pop1 x)) + pop3 (pop2 (pop1 x)) / 256) / 65536 + (pop3 (pop2 (pop1 x)) + pop3 (pop2 (pop1 x)) / 256 + (pop3 (pop2 (pop1 x)) + pop3 (pop2 (pop1 x)) / 256) / 65536) / 4294967296) &&& 127
theorem popS_le (x : Nat) : popS x ≤ 127 := Nat.and_le_right

set_option maxRecDepth 100000 in
set_option maxHeartbeats 1600000 in
theorem ones_any (x : Nat) (hx : x < 18446744073709551616) (w : World) : Calls Tryd.prog 85 #[.int .u64 x] w fun e w' => e = .returned (.int .i64 (popS x : Nat)) ∧ w = w' := by
  obtain ⟨a1, ha1⟩ : ∃ a, a = x / 2 &&& 6148914691236517205 := ⟨_, rfl⟩
  obtain ⟨b1, hb1⟩ : ∃ a, a = x &&& 6148914691236517205 := ⟨_, rfl⟩
  have la1 : a1 ≤ 6148914691236517205 := by rw [ha1]; exact Nat.and_le_right
  have lb1 : b1 ≤ 6148914691236517205 := by rw [hb1]; exact Nat.and_le_right
  obtain ⟨s1, hs1⟩ : ∃ a, a = a1 + b1 := ⟨_, rfl⟩
  obtain ⟨a2, ha2⟩ : ∃ a, a = s1 / 4 &&& 3689348814741910323 := ⟨_, rfl⟩
  obtain ⟨b2, hb2⟩ : ∃ a, a = s1 &&& 3689348814741910323 := ⟨_, rfl⟩
  have la2 : a2 ≤ 3689348814741910323 := by rw [ha2]; exact Nat.and_le_right
  have lb2 : b2 ≤ 3689348814741910323 := by rw [hb2]; exact Nat.and_le_right
  obtain ⟨s2, hs2⟩ : ∃ a, a = a2 + b2 := ⟨_, rfl⟩
  obtain ⟨q3, hq3⟩ : ∃ a, a = s2 / 16 + s2 := ⟨_, rfl⟩
  obtain ⟨s3, hs3⟩ : ∃ a, a = q3 &&& 1085102592571150095 := ⟨_, rfl⟩
  have ls3 : s3 ≤ 1085102592571150095 := by rw [hs3]; exact Nat.and_le_right
  obtain ⟨s4, hs4⟩ : ∃ a, a = s3 + s3 / 256 := ⟨_, rfl⟩
  obtain ⟨s5, hs5⟩ : ∃ a, a = s4 + s4 / 65536 := ⟨_, rfl⟩
  obtain ⟨s6, hs6⟩ : ∃ a, a = s5 + s5 / 4294967296 := ⟨_, rfl⟩
  obtain ⟨c, hc⟩ : ∃ a, a = s6 &&& 127 := ⟨_, rfl⟩
  have hfin : popS x = c := by
    have e3 : s3 = pop3 (pop2 (pop1 x)) := by
      rw [hs3, hq3, hs2, ha2, hb2, hs1, ha1, hb1]; rfl
    rw [hc, hs6, hs5, hs4, e3]; rfl
  rw [hfin]
  have hE : bits .and .u64 ((x : Int) / 2) 6148914691236517205 = (a1 : Int) ∧ bits .and .u64 (x : Int) 6148914691236517205 = (b1 : Int) ∧ IntKind.u64.wrap ((a1 : Int) + (b1 : Int)) = (s1 : Int) ∧
      bits .and .u64 ((s1 : Int) / 4) 3689348814741910323 = (a2 : Int) ∧ bits .and .u64 (s1 : Int) 3689348814741910323 = (b2 : Int) ∧ IntKind.u64.wrap ((a2 : Int) + (b2 : Int)) = (s2 : Int) ∧
      IntKind.u64.wrap ((s2 : Int) / 16 + (s2 : Int)) = (q3 : Int) ∧ bits .and .u64 (q3 : Int) 1085102592571150095 = (s3 : Int) ∧
      IntKind.u64.wrap ((s3 : Int) + (s3 : Int) / 256) = (s4 : Int) ∧ IntKind.u64.wrap ((s4 : Int) + (s4 : Int) / 65536) = (s5 : Int) ∧ IntKind.u64.wrap ((s5 : Int) + (s5 : Int) / 4294967296) = (s6 : Int) ∧
      IntKind.i64.wrap (s6 : Int) = (s6 : Int) ∧ bits .and .i64 (s6 : Int) 127 = (c : Int) := by
    refine ⟨?_, ?_, ?_, ?_, ?_, ?_, ?_, ?_, ?_, ?_, ?_, ?_, ?_⟩
    · rw [ha1]; have := u64_and_nat (x / 2) 6148914691236517205 (by omega) (by omega); exact this
    · rw [hb1]; have := u64_and_nat x 6148914691236517205 (by omega) (by omega); exact this
    · rw [IntWalk.u64_in _ (by omega)]; omega
    · rw [ha2]; have := u64_and_nat (s1 / 4) 3689348814741910323 (by omega) (by omega); exact this
    · rw [hb2]; have := u64_and_nat s1 3689348814741910323 (by omega) (by omega); exact this
    · rw [IntWalk.u64_in _ (by omega)]; omega
    · rw [IntWalk.u64_in _ (by omega)]; omega
    · rw [hs3]; have := u64_and_nat q3 1085102592571150095 (by omega) (by omega); exact this
    · rw [IntWalk.u64_in _ (by omega)]; omega
    · rw [IntWalk.u64_in _ (by omega)]; omega
    · rw [IntWalk.u64_in _ (by omega)]; omega
    · exact IntWalk.i64_in _ (by omega)
    · rw [hc]
      have h1 : (BitVec.ofInt 64 (s6 : Int)).toNat = s6 := by rw [BitVec.ofInt_natCast, BitVec.toNat_ofNat]; omega
      have h2 : s6 &&& 127 ≤ 127 := Nat.and_le_right
      show IntKind.i64.wrap ((BitVec.ofInt 64 (s6 : Int) &&& BitVec.ofInt 64 127).toNat : Int) = _
      rw [BitVec.toNat_and, h1, show (BitVec.ofInt 64 127).toNat = 127 from rfl]
      exact IntWalk.i64_in _ (by omega)
  clear ha1 hb1 la1 lb1 hs1 ha2 hb2 la2 lb2 hs2 hq3 hs3 ls3 hs4 hs5 hs6 hc hfin hx
  obtain ⟨e1, e2, e3, e4, e5, e6, e7, e8, e9, e10, e11, e12, e13⟩ := hE
  go_enter Tryd.func85, Tryd.ntmps85
  go_wp2_with fail
  go_ret
  exact ⟨rfl, rfl⟩
end Go.Proofs.YtccanbjnbmihgaaDoor
/-
  bits.Set.Equal: two sets are equal exactly if their numbers are.
-/
namespace Go.Proofs.YtccanbjnbmihgaaDoor
open Go.RowKit

theorem wl_inj {A B n : Nat} (hA : A < 2 ^ (64 * n)) (hB : B < 2 ^ (64 * n)) (h : wl A n = wl B n) : A = B := by
  refine Nat.eq_of_testBit_eq fun j => ?_
  by_cases hj : j < 64 * n
  · have h1 := congrArg (fun l => (l.getD (j / 64) 0).testBit (j % 64)) h
    simp only [wl_getD _ _ _ (show j / 64 < n by omega), Nat.testBit_mod_two_pow, Nat.testBit_div_two_pow] at h1
    have h2 : j % 64 < 64 := by omega
    have h3 : j % 64 + 64 * (j / 64) = j := by omega
    simpa [h2, h3] using h1
  · rw [Nat.testBit_lt_two_pow (Nat.lt_of_lt_of_le hA (Nat.pow_le_pow_right (by omega) (by omega))), Nat.testBit_lt_two_pow (Nat.lt_of_lt_of_le hB (Nat.pow_le_pow_right (by omega) (by omega)))]

theorem Canon.inj {hs : List Nat} {A B : Nat} (h : Canon hs A) (k : Canon hs B) : A = B :=
  wl_inj h.lt k.lt (h.eq.symm.trans k.eq)

theorem Canon.le {a b : List Nat} {M : Nat} (h : Canon a M) (k : Canon b M) : b.length ≤ a.length := by
  rcases k.last with e | e
  · omega
  · by_cases hl : b.length ≤ a.length
    · exact hl
    · exfalso
      refine e (Nat.div_eq_of_lt (Nat.lt_of_lt_of_le h.lt (Nat.pow_le_pow_right (by omega) (by omega))))

theorem Canon.uniq {a b : List Nat} {M : Nat} (h : Canon a M) (k : Canon b M) : a = b := by
  have hl : a.length = b.length := Nat.le_antisymm (k.le h) (h.le k)
  rw [h.eq, k.eq, hl]

/-- A row of words, cell by cell. -/
theorem words_form {w : World} {v : Value} {xs : List Nat} (h : Words w v xs) : ∃ a c, v = .slice a xs.length c ∧ xs.length ≤ maxLen ∧ ∀ i, i < xs.length → ∃ g off, a = some ⟨g, off, none⟩ ∧ g < w.heap.size ∧ w.cell? ⟨g, off + i, none⟩ = some (.int .u64 (xs.getD i 0 : Nat)) := by
  rcases h with ⟨h, h2⟩ | ⟨g, off, cap, h, h1, h3, h4, h5⟩
  · exact ⟨none, 0, by rw [h, h2]; rfl, by rw [h2]; simp, fun i hi => by rw [h2] at hi; simp at hi⟩
  · exact ⟨_, _, h, by omega, fun i hi => ⟨g, off, rfl, h4, h5 i hi⟩⟩

theorem take_eq_succ {xs ys : List Nat} {k : Nat} (h : xs.take k = ys.take k) (hx : k < xs.length) (hy : k < ys.length) (he : xs.getD k 0 = ys.getD k 0) : xs.take (k + 1) = ys.take (k + 1) := by
  rw [List.take_succ_eq_append_getElem hx, List.take_succ_eq_append_getElem hy, h]
  simp only [List.getD_eq_getElem?_getD, List.getElem?_eq_getElem hx, List.getElem?_eq_getElem hy, Option.getD_some] at he
  rw [he]

set_option maxRecDepth 100000 in
set_option maxHeartbeats 1600000 in
theorem equalw_any (w : World) (v u : Value) (xs ys : List Nat) (hv : Words w v xs) (hu : Words w u ys) :
    Calls Tryd.prog 67 #[v, u] w fun e w' => e = .returned (.bool (decide (xs = ys))) ∧ Kept (fun _ => False) w w' := by
  obtain ⟨a, c, rfl, hm, hx⟩ := words_form hv
  obtain ⟨a', c', rfl, hm', hy⟩ := words_form hu
  have HX := Lib.hid hx; have HY := Lib.hid hy
  clear hx hy hv hu
  have hm1 : xs.length ≤ 9223372036854775807 := by unfold maxLen at hm; omega
  obtain ⟨n, hn⟩ : ∃ n, n = xs.length := ⟨_, rfl⟩
  obtain ⟨m, hmm⟩ : ∃ m, m = ys.length := ⟨_, rfl⟩
  rw [← hn, ← hmm]
  by_cases hne : n = m
  · have hyl : ys.length = n := by omega
    subst hne
    clear hmm
    go_enter Tryd.func67, Tryd.ntmps67
    rw [← hn] at hm1
    have HN := Lib.hid hn; have HYL := Lib.hid hyl; clear hn hyl hm hm'
    go_wp2_with fail
    go_loopw [13] (fun iv wr => ∃ k : Nat, k ≤ n ∧ iv = .int .i64 k ∧ Hid (xs.take k = ys.take k) ∧ Kept (fun _ => False) w wr) (fun iv _ => n - (intOf iv).toNat)
    case atStart => exact ⟨0, Nat.zero_le _, rfl, rfl, Kept.refl _ _⟩
    case round =>
      obtain ⟨k, hk, rfl, ht, hkw⟩ := hrel
      by_cases hlt : k < n
      · have hlt' : (k : Int) < (n : Int) := by omega
        have hk0 : (0 : Int) ≤ (k : Int) := by omega
        obtain ⟨g, off, rfl, hg, hc⟩ := HX.out k (by rw [← HN.out]; exact hlt)
        obtain ⟨g', off', rfl, hg', hc'⟩ := HY.out k (by rw [HYL.out]; exact hlt)
        obtain ⟨x, hx⟩ : ∃ x, x = xs.getD k 0 := ⟨_, rfl⟩
        obtain ⟨y, hy⟩ : ∃ y, y = ys.getD k 0 := ⟨_, rfl⟩
        rw [← hx] at hc
        rw [← hy] at hc'
        have c1 := (hkw.cell (p := ⟨g, off + k, none⟩) hg (fun h => h)).trans hc
        have c2 := (hkw.cell (p := ⟨g', off' + k, none⟩) hg' (fun h => h)).trans hc'
        have HX1 := Lib.hid hx; have HY1 := Lib.hid hy; clear hx hy hc hc'
        by_cases hxy : x = y
        · subst hxy
          go_wp2_with fail
          go_quiet (fail)
          go_wp2_with fail
          go_roundw
          case rel => exact ⟨k + 1, by omega, by go_num, take_eq_succ ht.out (by rw [← HN.out]; exact hlt) (by rw [HYL.out]; exact hlt) (by rw [← HX1.out, ← HY1.out]), hkw.drewN _⟩
          case measure => simp [intOf]; omega
        · have hb : ((x : Int) == (y : Int)) = false := by simp; omega
          go_wp2_with fail
          go_quiet (fail)
          go_wp2_with fail
          go_ret
          refine ⟨?_, hkw.drewN _⟩
          have : decide (xs = ys) = false := by
            simp only [decide_eq_false_iff_not]
            intro e
            exact hxy (by rw [HX1.out, HY1.out, e])
          rw [this]; rfl
      · obtain rfl : k = n := by omega
        go_wp2_with fail
        go_ret
        refine ⟨?_, hkw⟩
        have h := ht.out
        rw [List.take_of_length_le (by rw [← HN.out]; exact Nat.le_refl _), List.take_of_length_le (by rw [HYL.out]; exact Nat.le_refl _)] at h
        rw [show decide (xs = ys) = true by simpa using h]; rfl
  · have hd : decide (xs = ys) = false := by
      simp only [decide_eq_false_iff_not]
      intro e
      exact hne (by rw [hn, hmm, e])
    rw [hd]
    have hb : ((n : Int) == (m : Int)) = false := by simp; omega
    clear hd hn hmm hm1 hm hm'
    go_enter Tryd.func67, Tryd.ntmps67
    go_wp2_with fail
    go_ret
    exact ⟨rfl, Kept.refl _ _⟩

set_option maxRecDepth 100000 in
set_option maxHeartbeats 800000 in
/-- 'Equal' of any two sets. -/
theorem equal_any (w : World) (v u : Value) (M K : Nat) (hv : SetV w v M) (hu : SetV w u K) :
    Calls Tryd.prog 34 #[v, u] w fun e w' => e = .returned (.bool (decide (M = K))) ∧ Kept (fun _ => False) w w' := by
  obtain ⟨a, hs, rfl, hw, hc, _⟩ := hv.ex
  obtain ⟨b, ks, rfl, hw', hc', _⟩ := hu.ex
  obtain ⟨l1, hl1⟩ : ∃ l, l = M % 2 ^ 64 := ⟨_, rfl⟩
  obtain ⟨l2, hl2⟩ : ∃ l, l = K % 2 ^ 64 := ⟨_, rfl⟩
  rw [← hl1, ← hl2]
  obtain ⟨a1, c1, hf1⟩ := hw.form
  obtain ⟨a2, c2, hf2⟩ := hw'.form
  have hE := fun (W : World) (hk : Kept (fun _ => False) w W) => equalw_any W a b hs ks (hw.kept hk (fun _ _ h => h)) (hw'.kept hk (fun _ _ h => h))
  have HE := Lib.hid hE; clear hE
  generalize hs.length = n1 at hf1
  generalize ks.length = n2 at hf2
  subst hf1 hf2
  have hka : Kept (fun _ => False) w ((w.alloc (.cells #[.int .u64 l1, .slice a1 n1 c1] 56)).alloc (.cells #[.int .u64 l2, .slice a2 n2 c2] 56)) := (Kept.alloc _ _ _).then (Kept.alloc _ _ _)
  have HKA := Lib.hid hka; clear hka
  by_cases hl : l1 = l2
  · have hd : decide (M = K) = decide (hs = ks) := by
      congr 1
      refine propext ⟨fun e => ?_, fun e => ?_⟩
      · subst e; exact hc.uniq hc'
      · subst e
        have h3 := hc.inj hc'
        have h1 := Nat.div_add_mod M (2 ^ 64)
        have h2 := Nat.div_add_mod K (2 ^ 64)
        rw [← h1, ← h2, h3, ← hl1, ← hl2, hl]
    rw [hd]
    clear hd hl1 hl2 hv hu hw hw' hc hc'
    subst hl
    go_enter Tryd.func34, Tryd.ntmps34
    go_wp2_with fail
    refine (HE.out _ HKA.out).mono ?_
    rintro e w1 ⟨rfl, hk⟩
    go_wp2_with fail
    go_ret
    exact ⟨rfl, HKA.out.then hk⟩
  · have hd : decide (M = K) = false := by
      simp only [decide_eq_false_iff_not]
      intro e
      exact hl (by rw [hl1, hl2, e])
    rw [hd]
    have hb : ((l1 : Int) == (l2 : Int)) = false := by simp; omega
    clear hd hl1 hl2 hv hu hw hw' hc hc' HE
    go_enter Tryd.func34, Tryd.ntmps34
    go_wp2_with fail
    go_ret
    exact ⟨rfl, HKA.out⟩

end Go.Proofs.YtccanbjnbmihgaaDoor
/-
  bits.Set.List: the members in ascending order.
-/
namespace Go.Proofs.YtccanbjnbmihgaaDoor
open Go.RowKit
attribute [local go_sem ↓] Go.wp_at_zero Go.wp_at_succ
set_option linter.unusedSimpArgs false

/-- What Len computes. -/
def lenS (M : Nat) (hs : List Nat) : Nat := popS (M % 2 ^ 64) + (hs.map popS).sum
theorem pop_sum (hs : List Nat) (k : Nat) (h : k < hs.length) : ((hs.take (k + 1)).map popS).sum = ((hs.take k).map popS).sum + popS (hs.getD k 0) := by
  rw [List.take_succ_eq_append_getElem h]
  simp only [List.map_append, List.map_cons, List.map_nil, List.sum_append, List.sum_cons, List.sum_nil, Nat.add_zero]
  congr 2
  simp [List.getD, h]
theorem pop_bound : ∀ hs : List Nat, (hs.map popS).sum ≤ 127 * hs.length
  | [] => by simp
  | x :: xs => by
    have := pop_bound xs
    have h := popS_le x
    rw [List.map_cons, List.sum_cons, List.length_cons]; omega

set_option maxRecDepth 100000 in
set_option maxHeartbeats 1600000 in
theorem len_any (w : World) (v : Value) (M : Nat) (hv : Value) (hs : List Nat) (hf : v = .agg #[.int .u64 (M % 2 ^ 64 : Nat), hv]) (hw : Words w hv hs) (hc : Canon hs (M / 2 ^ 64)) (hsm : hs.length ≤ 63) :
    Calls Tryd.prog 60 #[v] w fun e w' => e = .returned (.int .i64 (lenS M hs : Nat)) ∧ Kept (fun _ => False) w w' := by
  subst hf
  have hby : ∀ i, hs.getD i 0 < 2 ^ 64 := fun i => by
    by_cases hi : i < hs.length
    · rw [hc.eq, wl_getD _ _ _ hi]; exact Nat.mod_lt _ (Nat.pow_pos (by omega))
    · rw [List.getD_eq_getElem?_getD, List.getElem?_eq_none (by omega)]; exact Nat.pow_pos (by omega)
  obtain ⟨va, vc, hf, _, hx⟩ := words_form hw
  obtain ⟨n, hn⟩ : ∃ n, n = hs.length := ⟨_, rfl⟩
  rw [← hn] at hf hx hsm
  have hlo : M % 2 ^ 64 < 2 ^ 64 := Nat.mod_lt _ (Nat.pow_pos (by omega))
  have hLS : lenS M hs = popS (M % 2 ^ 64) + (hs.map popS).sum := rfl
  generalize M % 2 ^ 64 = lo at hlo hLS ⊢
  obtain ⟨R, hR⟩ : ∃ R, R = lenS M hs := ⟨_, rfl⟩
  rw [← hR] at hLS ⊢
  have HR := Lib.hid hLS; have HN := Lib.hid hn
  have hp0 := popS_le lo
  have HBD := Lib.hid (fun k : Nat => pop_bound (hs.take k))
  have HX := Lib.hid hx; have HBY := Lib.hid hby
  have HO := Lib.hid (fun (w : World) => ones_any lo (by omega) w)
  clear hw hc hx hn hby hlo hLS hR
  subst hf
  have KA := Lib.hid (Kept.alloc (fun _ => False) w (.cells #[.int .u64 lo, .slice va n vc] 56))
  go_enter Tryd.func60, Tryd.ntmps60
  go_wp2_with fail
  refine (HO.out _).mono ?_
  rintro e w1 ⟨rfl, rfl⟩
  go_wp2_with fail
  obtain ⟨p0, hp0e⟩ : ∃ p, p = popS lo := ⟨_, rfl⟩
  rw [← hp0e] at hp0 HR ⊢
  clear hp0e HO
  generalize w.alloc (.cells #[.int .u64 lo, .slice va n vc] 56) = wA at KA ⊢
  go_loop [3, 12] (fun sv iv => ∃ k s : Nat, k ≤ n ∧ iv = .int .i64 k ∧ s ≤ 127 * (k + 1) ∧ sv = .int .i64 s ∧ Hid (s = p0 + ((hs.take k).map popS).sum)) (fun _ iv => n - (intOf iv).toNat)
  case atStart => exact ⟨0, p0, by omega, rfl, by omega, rfl, by show p0 = p0 + _; simp⟩
  case round =>
    obtain ⟨k, s, hk, rfl, hs1, rfl, hsum⟩ := hrel
    by_cases hlt : k < n
    · have l1 : (k : Int) < (n : Int) := by omega
      have l0 : (0 : Int) ≤ (k : Int) := by omega
      obtain ⟨g, off, rfl, hg, hcell⟩ := HX.out k (by assumption)
      have hcell2 : wA.cell? ⟨g, off + k, none⟩ = _ := (KA.out.cell (p := ⟨g, off + k, none⟩) hg (fun h => h)).trans hcell
      have HO2 := Lib.hid (fun (w : World) => ones_any _ (HBY.out k) w)
      have hp := popS_le (hs.getD k 0)
      have hnext := pop_sum hs k (by have := HN.out; omega)
      have HNX := Lib.hid hnext
      clear hcell hnext
      generalize hs.getD k 0 = y at hcell2 HO2 hp HNX
      obtain ⟨c2, hc2⟩ : ∃ c, c = popS y := ⟨_, rfl⟩
      rw [← hc2] at HO2 hp HNX
      clear hc2
      go_wp2_with fail
      refine (HO2.out _).mono ?_
      rintro e w1 ⟨rfl, rfl⟩
      go_wp2_with fail
      go_round
      case rel => exact ⟨k + 1, s + c2, by omega, by go_num, by omega, by go_num, by show _ = _; rw [HNX.out, hsum.out]; omega⟩
      case measure => simp [intOf]; omega
    · have hRs : s = R := by rw [HR.out, hsum.out, List.take_of_length_le (by have := HN.out; omega)]
      have HRS := Lib.hid hRs
      clear hRs
      go_wp2_with fail
      go_ret
      exact ⟨congrArg (fun z : Nat => Ending.returned (Value.int .i64 (z : Int))) HRS.out, KA.out⟩
end Go.Proofs.YtccanbjnbmihgaaDoor
/-
  bits.Set.List: the members in ascending order.
-/
namespace Go.Proofs.YtccanbjnbmihgaaDoor
open Go.RowKit
attribute [local go_sem ↓] Go.wp_at_zero Go.wp_at_succ
set_option linter.unusedSimpArgs false

theorem AllAt.blocks {a b : World} {B M : Nat} {hv : Value} {hs : List Nat} (h : AllAt a B M hv hs) (hsz : a.heap.size ≤ b.heap.size) (h1 : b.heap[B]? = a.heap[B]?) (h2 : ∀ k, hv.ownBlock = some k → b.heap[k]? = a.heap[k]?) (h3 : b.heap[0]? = a.heap[0]?) : AllAt b B M hv hs := by
  refine ⟨(World.cell?_of_block (w := a) h1).trans h.c0, (World.cell?_of_block (w := a) h1).trans h.c1, ?_, h.can, ⟨Nat.lt_of_lt_of_le h.tz.lt hsz, fun j hj => (World.cell?_of_block (w := a) h3).trans (h.tz.tab j hj)⟩⟩
  rcases h.words with hw | ⟨g, off, cap, rfl, e1, e2, e3, e4⟩
  · exact Or.inl hw
  · exact Or.inr ⟨g, off, cap, rfl, e1, e2, Nat.lt_of_lt_of_le e3 hsz, fun i hi => (World.cell?_of_block (w := a) (h2 g rfl)).trans (e4 i hi)⟩

/-- The iterator's contract, for whoever keeps what it reads. -/
theorem all_stops (S : Nat → Prop) (M' B M : Nat) (va : Option Addr) (vc : Nat) (hs : List Nat) (w : World) (hA : AllAt w B M (.slice va hs.length vc) hs) (hl : hs.length ≤ 63) (hB : B < M') (hB2 : ¬ S B)
    (hw : ∀ k, (Value.slice va hs.length vc).ownBlock = some k → k < M' ∧ ¬ S k) (hg : 0 < M') (hg2 : ¬ S 0) :
    SeqStopsK Fence.wide 2 Tryd.prog 86 #[.pointer (some ⟨B, 0, none⟩)] (fun x : Int => #[Value.int .i64 x]) (KeepM S M') (fun ys => ys = memM M (64 * (1 + hs.length))) (fun pre => pre <+: memM M (64 * (1 + hs.length))) (memM M (64 * (1 + hs.length))).length w := by
  intro l J Jx W hW hJ hJx hY h0
  have hBlt := World.block_lt_of_cell? w _ hA.c0
  have hA2 : AllAt W B M (.slice va hs.length vc) hs := hA.on (Kept.ofBelow _ hW)
  refine all1_in l B M va vc hs (KeepM S M') J Jx W (fun pre x W1 h1 h2 _ _ => hY pre x W1 h1 h2) (fun a b hk ha => ?_) (fun pre a b _ hj hk => hJ pre a b none hj (kept_grown hk) (fun r e => by cases e)) (fun a b hk => hk.size) hA2 hl h0
  have h1 := World.block_lt_of_cell? a _ ha.c0
  refine ha.blocks hk.size (hk.block B hB h1 hB2) (fun k hk2 => ?_) (hk.block _ hg ha.tz.lt hg2)
  exact hk.block k (hw k hk2).1 (ha.words.lt k hk2) (hw k hk2).2

/-- A number that can be a member. -/
abbrev Mem : Type := {x : Int // 0 ≤ x ∧ x ≤ 4095}
/-- The iterator's contract, for a consumer who asks that what comes can be a member. -/
theorem all_stopsM (S : Nat → Prop) (M' B M : Nat) (va : Option Addr) (vc : Nat) (hs : List Nat) (w : World) (hA : AllAt w B M (.slice va hs.length vc) hs) (hl : hs.length ≤ 63) (hB : B < M') (hB2 : ¬ S B)
    (hw : ∀ k, (Value.slice va hs.length vc).ownBlock = some k → k < M' ∧ ¬ S k) (hg : 0 < M') (hg2 : ¬ S 0) :
    SeqStopsK Fence.wide 2 Tryd.prog 86 #[.pointer (some ⟨B, 0, none⟩)] (fun x : Mem => #[Value.int .i64 x.1]) (KeepM S M') (fun ys => ys.map (·.1) = memM M (64 * (1 + hs.length))) (fun pre => pre.map (·.1) <+: memM M (64 * (1 + hs.length))) (memM M (64 * (1 + hs.length))).length w := by
  intro l J Jx W hW hJ hJx hY h0
  have hBlt := World.block_lt_of_cell? w _ hA.c0
  have hA2 : AllAt W B M (.slice va hs.length vc) hs := hA.on (Kept.ofBelow _ hW)
  refine (all1_in l B M va vc hs (KeepM S M') (fun pre V => ∃ p : List Mem, p.map (·.1) = pre ∧ J p V) (fun pre V => ∃ p : List Mem, p.map (·.1) = pre ∧ Jx p V) W (fun pre x W1 h1 h2 h3 h4 => ?_) (fun a b hk ha => ?_)
    (fun pre a b _ hj hk => hj.imp fun p hp => ⟨hp.1, hJ p a b none hp.2 (kept_grown hk) (fun r e => by cases e)⟩) (fun a b hk => hk.size) hA2 hl ⟨[], rfl, h0⟩).mono ?_
  · obtain ⟨p, rfl, hp⟩ := h1
    obtain ⟨fn, tmps, assign, body, hy, hR⟩ := hY p ⟨x, h3, h4⟩ W1 hp (by simpa using h2)
    refine ⟨fn, tmps, assign, body, hy, hR.mono ?_⟩
    rintro e W' (⟨rfl, a, b⟩ | ⟨rfl, a⟩)
    · exact .inl ⟨rfl, ⟨p ++ [⟨x, h3, h4⟩], by rw [List.map_append]; rfl, a⟩, b⟩
    · exact .inr ⟨rfl, ⟨p ++ [⟨x, h3, h4⟩], by rw [List.map_append]; rfl, a⟩⟩
  · have h1 := World.block_lt_of_cell? a _ ha.c0
    refine ha.blocks hk.size (hk.block B hB h1 hB2) (fun k hk2 => ?_) (hk.block _ hg ha.tz.lt hg2)
    exact hk.block k (hw k hk2).1 (ha.words.lt k hk2) (hw k hk2).2
  · rintro e W' ⟨he, ⟨ys, h1, p, rfl, h3⟩ | ⟨pre, h1, p, rfl, h3⟩⟩
    · exact ⟨he, .inl ⟨p, h1, h3⟩⟩
    · exact ⟨he, .inr ⟨p, h1, h3⟩⟩

theorem memM_all {M : Nat} {hs : List Nat} (hc : Canon hs (M / 2 ^ 64)) (hl : hs.length ≤ 63) : memM M (64 * (1 + hs.length)) = memM M 4096 := by
  have hlt : M < 2 ^ (64 * (1 + hs.length)) := by
    have h1 := hc.lt
    rw [show 64 * (1 + hs.length) = 64 * hs.length + 64 by omega, Nat.pow_add]
    exact (Nat.div_lt_iff_lt_mul (Nat.pow_pos (by omega))).1 h1
  have := memM_skip (M := M) (a := 64 * (1 + hs.length)) (4096 - 64 * (1 + hs.length)) fun i h1 _ => Nat.testBit_lt_two_pow (Nat.lt_of_lt_of_le hlt (Nat.pow_le_pow_right (by omega) h1))
  rw [show 64 * (1 + hs.length) + (4096 - 64 * (1 + hs.length)) = 4096 by omega] at this
  exact this.symm

set_option maxRecDepth 100000 in
theorem all_any (w : World) (lo : Nat) (va : Option Addr) (n vc : Nat) :
    Calls Tryd.prog 61 #[.agg #[.int .u64 lo, .slice va n vc]] w fun e w' => e = .returned (.func (.func 86) #[] #[.pointer (some ⟨w.heap.size, 0, none⟩)]) ∧ w' = w.alloc (.cells #[.int .u64 lo, .slice va n vc] 56) := by
  go_enter Tryd.func61, Tryd.ntmps61
  go_wp2_with fail
  go_ret
  exact ⟨rfl, rfl⟩

/-- The set's box behind All. -/
theorem allAt_new {w : World} {M : Nat} {va : Option Addr} {vc : Nat} {hs : List Nat} {k : Nat} (hw : Words w (.slice va k vc) hs) (hc : Canon hs (M / 2 ^ 64)) (hT : Tz w) :
    AllAt (w.alloc (.cells #[.int .u64 (M % 2 ^ 64 : Nat), .slice va k vc] 56)) w.heap.size M (.slice va k vc) hs :=
  ⟨by go_simp, by go_simp, hw.kept (Kept.alloc (fun _ => False) _ _) (fun _ _ h => h), hc, hT.kept (Kept.alloc (fun _ => False) _ _) (fun h => h)⟩

set_option maxRecDepth 100000 in
set_option maxHeartbeats 3200000 in
theorem list_any (w : World) (v : Value) (M : Nat) (h : SetV w v M) (hS : Small M) (hT : Tz w) :
    Calls Tryd.prog 27 #[v] w fun e w' => ∃ u, e = .returned u ∧ w'.ownsRow 0 3 1 u (memM M 4096).length ((memM M 4096).map (Value.int .i64)) ∧ (∀ k, u.ownBlock = some k → w.heap.size ≤ k) ∧ Kept (fun _ => False) w w' := by
  obtain ⟨i0, hi, hz0, hz1, hz2⟩ := info_parts info_int9
  obtain ⟨hv, hs, rfl, hw, hc, -⟩ := h.ex
  have hsm := hc.small hS
  have hall := memM_all hc hsm
  obtain ⟨va, vc, hf, -, -⟩ := words_form hw
  subst hf
  have hLN := fun (W : World) (k : Kept (fun _ => False) w W) => len_any W _ M _ hs rfl (hw.kept k (fun _ _ h => h)) hc hsm
  have hlen : lenS M hs ≤ 10000 := by
    have h1 := popS_le (M % 2 ^ 64)
    have h2 := pop_bound hs
    unfold lenS; omega
  have hml := memM_le M 4096
  obtain ⟨L, hL⟩ : ∃ L, L = memM M 4096 := ⟨_, rfl⟩
  obtain ⟨c, hcc⟩ : ∃ c, c = lenS M hs := ⟨_, rfl⟩
  rw [← hcc] at hLN hlen
  have hwlt := hw.lt
  have hglt := hT.lt
  have HSEQ : Hid (∀ (W : World) (B : Nat) (va0 : Option Addr) (vc0 : Nat), AllAt W B M (.slice va hs.length vc) hs → w.heap.size ≤ B → B < W.heap.size → (∀ g, va0 = some g → w.heap.size ≤ g.block ∧ g.block ≠ B ∧ g = ⟨g.block, 0, none⟩) → W.ownsRow 0 3 1 (.slice va0 0 vc0) 0 [] → w.heap.size ≤ W.heap.size →
      Calls Tryd.prog 59 #[.slice va0 0 vc0, .func (.func 86) #[] #[.pointer (some ⟨B, 0, none⟩)]] W fun e W' => ∃ u, e = .returned u ∧ W'.ownsRow 0 3 1 u L.length (L.map (Value.int .i64)) ∧ RowAt (.slice va0 0 vc0) W.heap.size u ∧ Kept (blk (.slice va0 0 vc0)) W W') := by
    intro W B va0 vc0 hA hB hB2 hva hrow hsz
    have hblk : ∀ k, blk (.slice va0 0 vc0) k → w.heap.size ≤ k ∧ k ≠ B := fun k hk => by
      cases va0 with
      | none => simp [blk, Value.ownBlock] at hk
      | some g =>
        obtain ⟨e1, e2, e3⟩ := hva g rfl
        have : g.block = k := by
          rw [e3] at hk
          simpa [blk, Value.ownBlock] using hk
        subst this
        exact ⟨e1, e2⟩
    have := appendSeq_any #[.pointer (some ⟨B, 0, none⟩)] L va0 vc0 W (fun S M' hM hS => by
      rw [hL, ← hall]
      refine all_stops S M' B M va vc hs W hA hsm (by omega) (fun hs2 => ?_) (fun k hk => ⟨by have := hwlt k hk; omega, fun hs2 => ?_⟩) (by omega) (fun hs2 => ?_)
      · rcases hS _ hs2 with h | h
        · omega
        · exact (hblk _ h).2 rfl
      · have h1 := hwlt k hk
        rcases hS _ hs2 with h | h
        · omega
        · have := (hblk _ h).1; omega
      · rcases hS _ hs2 with h | h
        · omega
        · have := (hblk _ h).1; omega) (by rw [hL]; omega) hrow
    exact this
  rw [← hL]
  have HLN := Lib.hid hLN; have HT := Lib.hid hT; have HW := Lib.hid hw; have HCN := Lib.hid hc
  clear h hS hall hw hc hLN hL hcc hml hwlt hT
  have HAL := Lib.hid (fun (W : World) (k : Kept (fun _ => False) w W) => allAt_new (M := M) (HW.out.kept k (fun _ _ h => h)) HCN.out (HT.out.kept k (fun h => h)))
  generalize hs.length = n at *
  obtain ⟨lo, hlo⟩ : ∃ lo, lo = M % 2 ^ 64 := ⟨_, rfl⟩
  rw [← hlo] at HLN HAL ⊢
  clear hlo
  go_enter Tryd.func27, Tryd.ntmps27
  have KA := Lib.hid (Kept.alloc (fun _ => False) w (.cells #[.int .u64 lo, .slice va n vc] 56))
  have hbx : Hid (∀ W, Kept (fun _ => False) (w.alloc (.cells #[.int .u64 lo, .slice va n vc] 56)) W → W.cell? ⟨w.heap.size, 0, none⟩ = some (.int .u64 lo) ∧ W.cell? ⟨w.heap.size, 1, none⟩ = some (.slice va n vc) ∧ w.heap.size < W.heap.size) := fun W hk => box_cells hk (fun h => h)
  go_wp2_with fail
  generalize w.alloc (.cells #[.int .u64 lo, .slice va n vc] 56) = wA at KA hbx ⊢
  have D0 := Lib.hid ((Kept.refl (fun _ => False) wA).drew)
  refine wp_region_held_drew (S := fun w' => w'.cell? ⟨w.heap.size, 0, none⟩ = some (.int .u64 lo) ∧ w'.cell? ⟨w.heap.size, 1, none⟩ = some (.slice va n vc)) (by kernel_rfl) ⟨(hbx.out _ D0.out).1, (hbx.out _ D0.out).2.1⟩ (fun _ => ?_)
  refine wpAnyH_take (i := 0) (v := .agg #[.int .u64 lo, .slice va n vc]) rfl (by kernel_rfl) (by kernel_rfl) (by kernel_rfl) (fun _ _ _ h => h) (Or.inl ⟨by simp [Region.wanted, yielded], fun W hS => by have h1 := hS.1; have h2 := hS.2; go_simp⟩) ⟨(hbx.out _ D0.out).1, (hbx.out _ D0.out).2.1⟩ ?_
  try (simp only [Act.put, List.getElem_toArray, List.getElem_cons_succ, List.getElem_cons_zero, List.setIfInBounds_toArray, List.set_cons_zero, List.set_cons_succ])
  refine wpAnyH_take (i := 3) (v := .agg #[.int .u64 lo, .slice va n vc]) rfl (by kernel_rfl) (by kernel_rfl) (by kernel_rfl) (fun _ _ _ h => h) (Or.inl ⟨by simp [Region.wanted, yielded], fun W hS => by have h1 := hS.1; have h2 := hS.2; go_simp⟩) ⟨(hbx.out _ D0.out).1, (hbx.out _ D0.out).2.1⟩ ?_
  try (simp only [Act.put, List.getElem_toArray, List.getElem_cons_succ, List.getElem_cons_zero, List.setIfInBounds_toArray, List.set_cons_zero, List.set_cons_succ])
  refine wpAnyH_ready (rs := [1]) (by kernel_rfl) (by simp) ?_
  refine AllReadyH.cons (o := _) rfl (fun K hK => ?_) AllReadyH.nil
  try (rw [if_pos (by simp [Region.wanted, yielded])])
  go_simp
  go_at_call 60
  refine (HLN.out wA.drew (KA.out.then D0.out)).mono ?_
  rintro e w1 ⟨rfl, k1⟩; have D1 := Lib.hid (D0.out.then k1); clear k1
  go_wp2_with fail
  refine hK.out _ _ ⟨(hbx.out _ D1.out).1, (hbx.out _ D1.out).2.1⟩ (fun _ => ?_)
  clear hK K
  try (simp only [Act.put, List.getElem_toArray, List.getElem_cons_succ, List.getElem_cons_zero, List.setIfInBounds_toArray, List.set_cons_zero, List.set_cons_succ])
  have hsz1 := (KA.out.then D1.out).size
  refine wpAnyH_ready (rs := [2, 4]) (by kernel_rfl) (by simp) ?_
  refine AllReadyH.cons (o := _) rfl (fun K hK => ?_) (AllReadyH.cons (o := _) rfl (fun K hK => ?_) AllReadyH.nil)
  · obtain ⟨w2, hmk, hown, hgr⟩ := run_make_own (P := Tryd.prog) w1 0 52 3 i0 (.int .i64 0) 1 Tryd.underlying52 hi hz0 hz1 .i64 .i64 c (by rw [hz2]; omega) (by unfold maxLen; omega) (Nat.zero_le _)
    have D2 := Lib.hid (D1.out.then (Kept.ofGrown (S := fun _ => False) hgr (fun k e => by cases e)))
    have HOWN := Lib.hid hown; have HGR := Lib.hid hgr
    clear hown hgr
    try (rw [if_pos (by simp [Region.wanted, yielded])])
    go_simp
    refine hK.out _ _ ⟨(hbx.out _ D2.out).1, (hbx.out _ D2.out).2.1⟩ (fun _ => ?_)
    clear hK K hmk
    try (simp only [Act.put, List.getElem_toArray, List.getElem_cons_succ, List.getElem_cons_zero, List.setIfInBounds_toArray, List.set_cons_zero, List.set_cons_succ])
    refine wpAnyH_ready (rs := [4]) (by kernel_rfl) (by simp) ?_
    refine AllReadyH.cons (o := _) rfl (fun K hK => ?_) AllReadyH.nil
    try (rw [if_pos (by simp [Region.wanted, yielded])])
    try (rw [if_pos (by simp [Region.wanted, yielded])])
    go_simp
    go_at_call 61
    refine (all_any w2 lo va n vc).mono ?_
    rintro e w3 ⟨rfl, hwal⟩
    have hAt := HAL.out w2 (KA.out.then D2.out)
    have hkal : Kept (fun _ => False) w2 w3 := by rw [hwal]; exact Kept.alloc _ _ _
    have HSZL : Hid (w3.heap.size = w2.heap.size + 1) := by rw [hwal]; show _ = _; simp
    rw [← hwal] at hAt
    have HAT := Lib.hid hAt; have D3 := Lib.hid (D2.out.then hkal); have HKAL := Lib.hid hkal
    clear hwal hAt hkal
    go_wp2_with fail
    refine hK.out _ _ ⟨(hbx.out _ D3.out).1, (hbx.out _ D3.out).2.1⟩ (fun _ => ?_)
    clear hK K
    try (simp only [Act.put, List.getElem_toArray, List.getElem_cons_succ, List.getElem_cons_zero, List.setIfInBounds_toArray, List.set_cons_zero, List.set_cons_succ])
    have hsz2 := D2.out.size
    have hszal := HSZL.out
    have HAT2 := HAT.out
    have hB1 : w.heap.size ≤ w2.heap.size := (KA.out.then D2.out).size
    have hB2 : w2.heap.size < w3.heap.size := by omega
    have hB3 : w.heap.size ≤ w1.heap.size := hsz1
    have hgw : w1.heap.size < w2.heap.size := (HOWN.out.lt w1.heap.size (by simp [Value.ownBlock])).2
    have hB4 : w1.heap.size ≠ w2.heap.size := by omega
    have hB5 : w.heap.size ≤ w3.heap.size := by omega
    have hxA := KA.out.size
    have hwA1 := D1.out.size
    have HROW := HKAL.out.owns HOWN.out (fun _ _ h => h)
    clear hszal
    have HSQ := Lib.hid (HSEQ.out w3 w2.heap.size (some ⟨w1.heap.size, 0, none⟩) c HAT2 hB1 hB2 (fun g hg => by cases hg; exact ⟨hB3, hB4, rfl⟩) HROW hB5)
    clear HAT2 HROW
    refine wpAnyH_ready (rs := [5]) (by kernel_rfl) (by simp) ?_
    refine AllReadyH.cons (o := _) rfl (fun K hK => ?_) AllReadyH.nil
    try (rw [if_pos (by simp [Region.wanted, yielded])])
    go_simp
    go_at_call 59
    refine (HSQ.out).mono ?_
    rintro e w4 ⟨u, rfl, hu, hat4, k4⟩; have HU := Lib.hid hu; have HAT4 := Lib.hid hat4; have HK4 := Lib.hid k4; have D4 : Hid (Kept (fun _ => False) wA w4) := D3.out.trans k4 (fun _ _ h => h) (fun i hi e => by have e2 : w1.heap.size = i := (by simpa [blk, Value.ownBlock] using e); omega); clear hu hat4 k4
    go_wp2_with fail
    refine hK.out _ _ ⟨(hbx.out _ D4.out).1, (hbx.out _ D4.out).2.1⟩ (fun _ => ?_)
    clear hK K
    try (simp only [Act.put, List.getElem_toArray, List.getElem_cons_succ, List.getElem_cons_zero, List.setIfInBounds_toArray, List.set_cons_zero, List.set_cons_succ])
    refine wpAnyH_take (i := 6) (v := u) rfl (by kernel_rfl) (by kernel_rfl) (by kernel_rfl) (fun _ _ _ h => h) (Or.inl ⟨by simp [Region.wanted, yielded], fun W hS => by go_simp⟩) ⟨(hbx.out _ D4.out).1, (hbx.out _ D4.out).2.1⟩ ?_
    try (simp only [Act.put, List.getElem_toArray, List.getElem_cons_succ, List.getElem_cons_zero, List.setIfInBounds_toArray, List.set_cons_zero, List.set_cons_succ])
    refine wpAnyH_done (by kernel_rfl) ?_ _
    go_wp2_with fail
    go_ret
    exact ⟨u, rfl, HU.out, fun k hk => (HAT4.out k hk).elim (fun e => by have e2 : w1.heap.size = k := (by simpa [blk, Value.ownBlock] using e); omega) (fun e => by omega), KA.out.then D4.out⟩
  · try (rw [if_pos (by simp [Region.wanted, yielded])])
    go_simp
    go_at_call 61
    refine (all_any w1 lo va n vc).mono ?_
    rintro e w2 ⟨rfl, hwal⟩
    have hAt := HAL.out w1 (KA.out.then D1.out)
    have hkal : Kept (fun _ => False) w1 w2 := by rw [hwal]; exact Kept.alloc _ _ _
    have HSZL : Hid (w2.heap.size = w1.heap.size + 1) := by rw [hwal]; show _ = _; simp
    rw [← hwal] at hAt
    have HAT := Lib.hid hAt; have D2 := Lib.hid (D1.out.then hkal); have HKAL := Lib.hid hkal
    clear hwal hAt hkal
    go_wp2_with fail
    refine hK.out _ _ ⟨(hbx.out _ D2.out).1, (hbx.out _ D2.out).2.1⟩ (fun _ => ?_)
    clear hK K
    try (simp only [Act.put, List.getElem_toArray, List.getElem_cons_succ, List.getElem_cons_zero, List.setIfInBounds_toArray, List.set_cons_zero, List.set_cons_succ])
    refine wpAnyH_ready (rs := [2]) (by kernel_rfl) (by simp) ?_
    refine AllReadyH.cons (o := _) rfl (fun K hK => ?_) AllReadyH.nil
    try (rw [if_pos (by simp [Region.wanted, yielded])])
    obtain ⟨w3, hmk, hown, hgr⟩ := run_make_own (P := Tryd.prog) w2 0 52 3 i0 (.int .i64 0) 1 Tryd.underlying52 hi hz0 hz1 .i64 .i64 c (by rw [hz2]; omega) (by unfold maxLen; omega) (Nat.zero_le _)
    have D3 := Lib.hid (D2.out.then (Kept.ofGrown (S := fun _ => False) hgr (fun k e => by cases e)))
    have HOWN := Lib.hid hown; have HGR := Lib.hid hgr
    clear hown hgr
    try (rw [if_pos (by simp [Region.wanted, yielded])])
    go_simp
    refine hK.out _ _ ⟨(hbx.out _ D3.out).1, (hbx.out _ D3.out).2.1⟩ (fun _ => ?_)
    clear hK K hmk
    try (simp only [Act.put, List.getElem_toArray, List.getElem_cons_succ, List.getElem_cons_zero, List.setIfInBounds_toArray, List.set_cons_zero, List.set_cons_succ])
    have hsz2 := D2.out.size
    have hszal := HSZL.out
    have HAT2 := HAT.out.on (Kept.ofGrown (S := fun _ => False) HGR.out (fun k e => by cases e))
    have hB1 : w.heap.size ≤ w1.heap.size := hsz1
    have hgw : w2.heap.size < w3.heap.size := (HOWN.out.lt w2.heap.size (by simp [Value.ownBlock])).2
    have hB2 : w1.heap.size < w3.heap.size := by omega
    have hB3 : w.heap.size ≤ w2.heap.size := by omega
    have hB4 : w2.heap.size ≠ w1.heap.size := by omega
    have hB5 : w.heap.size ≤ w3.heap.size := by omega
    have hxA := KA.out.size
    have hwA1 := D1.out.size
    have HROW := HOWN.out
    clear hszal
    have HSQ := Lib.hid (HSEQ.out w3 w1.heap.size (some ⟨w2.heap.size, 0, none⟩) c HAT2 hB1 hB2 (fun g hg => by cases hg; exact ⟨hB3, hB4, rfl⟩) HROW hB5)
    clear HAT2 HROW
    refine wpAnyH_ready (rs := [5]) (by kernel_rfl) (by simp) ?_
    refine AllReadyH.cons (o := _) rfl (fun K hK => ?_) AllReadyH.nil
    try (rw [if_pos (by simp [Region.wanted, yielded])])
    go_simp
    go_at_call 59
    refine (HSQ.out).mono ?_
    rintro e w4 ⟨u, rfl, hu, hat4, k4⟩; have HU := Lib.hid hu; have HAT4 := Lib.hid hat4; have HK4 := Lib.hid k4; have D4 : Hid (Kept (fun _ => False) wA w4) := D3.out.trans k4 (fun _ _ h => h) (fun i hi e => by have e2 : w2.heap.size = i := (by simpa [blk, Value.ownBlock] using e); omega); clear hu hat4 k4
    go_wp2_with fail
    refine hK.out _ _ ⟨(hbx.out _ D4.out).1, (hbx.out _ D4.out).2.1⟩ (fun _ => ?_)
    clear hK K
    try (simp only [Act.put, List.getElem_toArray, List.getElem_cons_succ, List.getElem_cons_zero, List.setIfInBounds_toArray, List.set_cons_zero, List.set_cons_succ])
    refine wpAnyH_take (i := 6) (v := u) rfl (by kernel_rfl) (by kernel_rfl) (by kernel_rfl) (fun _ _ _ h => h) (Or.inl ⟨by simp [Region.wanted, yielded], fun W hS => by go_simp⟩) ⟨(hbx.out _ D4.out).1, (hbx.out _ D4.out).2.1⟩ ?_
    try (simp only [Act.put, List.getElem_toArray, List.getElem_cons_succ, List.getElem_cons_zero, List.setIfInBounds_toArray, List.set_cons_zero, List.set_cons_succ])
    refine wpAnyH_done (by kernel_rfl) ?_ _
    go_wp2_with fail
    go_ret
    exact ⟨u, rfl, HU.out, fun k hk => (HAT4.out k hk).elim (fun e => by have e2 : w2.heap.size = k := (by simpa [blk, Value.ownBlock] using e); omega) (fun e => by omega), KA.out.then D4.out⟩
end Go.Proofs.YtccanbjnbmihgaaDoor
/-
  bits.Set.Text: the members in decimal between braces.
-/
namespace Go.Proofs.YtccanbjnbmihgaaDoor
open Go.RowKit Go.Shelf
attribute [local go_sem] Oper.semAt_some

theorem info_u8t : (Tryd.prog.info? 5).map (fun i => (i.zero, i.size, i.bytes)) = some (some (.int .u8 0), 1, 1) := by kernel_rfl

/-- What the text's loop holds: the row, and the variable that holds it. -/
structure TxAt (W : World) (b : Nat) (v : Value) (xs : List UInt8) : Prop where
  box : Boxed W (b + 2) 76 v
  row : W.ownsRow (b + 1) 5 1 v xs.length (Lib.byteCells xs)
  at_ : ∀ k, v.ownBlock = some k → k = b + 1 ∨ b + 4 ≤ k
def TxS (b : Nat) (k : Nat) : Prop := k = b + 1 ∨ k = b + 2

theorem OthersKept.box {e t : TypeId} {W W' : World} (h : Lib.OthersKept e none W W') {k : Nat} {cs : Array Value} {fz : Nat × Nat} (hk : W.heap[k]? = some (.cells cs t fz)) (ht : t ≠ e) : W'.heap[k]? = some (.cells cs t fz) :=
  h k _ hk (by simp) (fun c f e2 => by cases e2; exact ht rfl)

theorem tx_grow {W W' : World} {b : Nat} {v v' : Value} {xs ys : List UInt8} (h : TxAt W b v xs) {c3 : Array Value} (h3 : W.heap[b + 3]? = some (.cells c3 56 (0, 0)))
    (hown : W'.ownsRow (b + 1) 5 1 v' ys.length (Lib.byteCells ys)) (hb : Below (b + 1) W W') (ho : Lib.OthersKept 5 none W W') (B : Nat) :
    TxAt (W'.setCell ⟨b + 2, 0, none⟩ v') b v' ys ∧ KeepsFrom B W (W'.setCell ⟨b + 2, 0, none⟩ v') ∧ KeepM (TxS b) (b + 4) W (W'.setCell ⟨b + 2, 0, none⟩ v') := by
  have hbox : Boxed W' (b + 2) 76 v := OthersKept.box ho h.box (by decide)
  have h3' := OthersKept.box ho h3 (by decide)
  have hat : ∀ k, v'.ownBlock = some k → k = b + 1 ∨ b + 4 ≤ k := fun k hk => by
    obtain ⟨_, hh⟩ := hown
    rcases hh with ⟨rfl, _⟩ | ⟨g, cap, cur, rfl, h1, h2, _⟩
    · cases hk
    · have : g = k := by simpa [Value.ownBlock] using hk
      subst this
      by_cases e2 : g = b + 2
      · subst e2; rw [show W'.heap[b + 2]? = _ from hbox] at h2; cases h2
      · by_cases e3 : g = b + 3
        · subst e3; rw [h3'] at h2; cases h2
        · omega
  have hkc := Kept.setCell (fun k => k = b + 2) W' ⟨b + 2, 0, none⟩ v' rfl
  refine ⟨⟨hbox.set v', hkc.owns hown (fun k hk e => by have := hat k hk; omega), hat⟩, ?_, ?_⟩
  · refine KeepsFrom.trans ⟨hb.size, fun k o _ hk hc => ho k o hk (by simp) (fun c f e => by subst e; cases hc)⟩ (KeepsOthers.from (KeepsOthers.setCell W' _ v') B)
  · refine KeepM.trans (b := W') ⟨hb.os, hb.tape, hb.output, hb.size, fun k h1 h2 hn => ?_⟩ (KeepM.grown (grownBy_setCell' W' (b + 2) v') (fun r e => by cases e; exact Or.inr (Or.inr rfl)))
    by_cases e3 : k = b + 3
    · subst e3; exact h3'.trans h3.symm
    · exact hb.block k (by
        have h5 : ¬ (k = b + 1 ∨ k = b + 2) := hn
        omega)

theorem others_grown {W W1 : World} {tmp : Obj} {row : Option Nat} {e : TypeId} (hg : (W.alloc tmp).grownBy W1 row) (hrow : ∀ r, row = some r → ∃ c fz, W.heap[r]? = some (.cells c e fz)) : Lib.OthersKept e none W W1 := by
  intro k o hk _ ho
  have hlt : k < W.heap.size := (Array.getElem?_eq_some_iff.1 hk).1
  refine (hg.block k (by simp; omega) (fun e2 => ?_)).trans ((Below.heap_alloc W tmp k hlt).trans hk)
  obtain ⟨c, fz, h⟩ := hrow k e2.symm
  rw [hk] at h
  exact ho _ _ (Option.some.inj h)
theorem KeepM.below {S : Nat → Prop} {M B : Nat} {a b : World} (h : KeepM S M a b) (hM : B ≤ M) (hB : B ≤ a.heap.size) (hS : ∀ k, k < B → ¬ S k) : Below B a b :=
  ⟨h.os, h.tape, h.output, h.size, fun k hk => h.block k (by omega) (by omega) (hS k hk)⟩
theorem row_cells {W : World} {base : Nat} {e : TypeId} {size : Nat} {v : Value} {k : Nat} {xs : List Value} (h : W.ownsRow base e size v k xs) : ∀ r, v.ownBlock = some r → base ≤ r ∧ ∃ c fz, W.heap[r]? = some (.cells c e fz) := by
  intro r hr
  obtain ⟨_, hh⟩ := h
  rcases hh with ⟨rfl, _⟩ | ⟨g, cap, cur, rfl, h1, h2, _⟩
  · cases hr
  · have : g = r := by simpa [Value.ownBlock] using hr
    subst this
    exact ⟨h1, _, _, h2⟩
theorem row_slice {W : World} {base : Nat} {e : TypeId} {size : Nat} {v : Value} {k : Nat} {xs : List Value} (h : W.ownsRow base e size v k xs) (hk : 0 < k) : ∃ g cap, v = .slice (some ⟨g, 0, none⟩) k cap := by
  obtain ⟨_, hh⟩ := h
  rcases hh with ⟨_, h0⟩ | ⟨g, cap, cur, rfl, _⟩
  · omega
  · exact ⟨g, cap, rfl⟩
theorem tab_on {P : Program} {B B' : Nat} {w W : World} {name : String} {k : IntKind} {zs : List Int} (h : Lib.TabBelow P B w name k zs) (hb : Below B w W) (hB : B ≤ B') : Lib.TabBelow P B' W name k zs :=
  fun w' h' => h w' (hb.trans (h'.mono hB))

theorem conv_row {W1 : World} {base g' n cap' : Nat} {l : List UInt8} (h : W1.ownsRow base 5 1 (.slice (some ⟨g', 0, none⟩) n cap') n (Lib.byteCells l)) (hn : l.length = n) :
    (convert 76 9 (.slice (some ⟨g', 0, none⟩) n cap')).run Tryd.prog W1 = .ok (.string ⟨l.toArray⟩) W1 := by
  subst hn
  refine run_convert_bytes_back (P := Tryd.prog) W1 76 9 5 ⟨g', 0, none⟩ cap' l Tryd.underlying76 Tryd.underlying5 Tryd.underlying9 (fun j hj => ?_)
  have hadd : (⟨g', 0, none⟩ : Addr).add j = ⟨g', j, none⟩ := by unfold Addr.add; split <;> simp_all
  rw [hadd, h.cellAt j (by omega)]
  simp [Lib.byteCells, hj]

set_option maxRecDepth 100000 in
set_option maxHeartbeats 3200000 in
theorem text_at (w : World) (lo n vc : Nat) (va : Option Addr) (M : Nat) (hs : List Nat) (hlo : lo = M % 2 ^ 64) (hn : hs.length = n) (hw : Words w (.slice va n vc) hs) (hc : Canon hs (M / 2 ^ 64)) (hl : n ≤ 63) (hT : Tz w)
    (hP : Lib.TabBelow Tryd.prog w.heap.size w "internal/strconv.uint64pow10" .u64 Lib.pow10Tab) :
    Calls Tryd.prog 46 #[.agg #[.int .u64 lo, .slice va n vc]] w fun e w' => e = .returned (.string ⟨(textS M).toArray⟩) ∧ Kept (fun _ => False) w w' := by
  have HLO := Lib.hid hlo; have HN := Lib.hid hn
  clear hlo hn
  have hwlt := hw.lt; have hglt := hT.lt
  refine (callsIn_wide (n := 3)).1 ?_
  obtain ⟨i0, hi, hz0, hz1, hz2⟩ := info_parts info_u8t
  obtain ⟨w3, hw3⟩ : ∃ w3, w3 = ((w.alloc (.cells #[.int .u64 lo, .slice va n vc] 56)).alloc (.cells #[.int .u8 123] 5)).alloc (.cells #[.slice (some ⟨w.heap.size + 1, 0, none⟩) 1 1] 76) := ⟨_, rfl⟩
  have hk3 : Kept (fun _ => False) w w3 := by rw [hw3]; exact ((Kept.alloc _ _ _).then (Kept.alloc _ _ _)).then (Kept.alloc _ _ _)
  have hs3 : w3.heap.size = w.heap.size + 3 := by rw [hw3]; simp
  have hb3 : Boxed w3 (w.heap.size + 2) 76 (.slice (some ⟨w.heap.size + 1, 0, none⟩) 1 1) := by rw [hw3]; have := Boxed.new ((w.alloc (.cells #[.int .u64 lo, .slice va n vc] 56)).alloc (.cells #[.int .u8 123] 5)) 76 (.slice (some ⟨w.heap.size + 1, 0, none⟩) 1 1); simpa using this
  have hr3 : w3.ownsRow (w.heap.size + 1) 5 1 (.slice (some ⟨w.heap.size + 1, 0, none⟩) 1 1) 1 [.int .u8 123] := by
    rw [hw3]
    refine (Kept.alloc (fun _ => False) _ _).owns ?_ (fun _ _ h => h)
    have := owns_lit (w.alloc (.cells #[.int .u64 lo, .slice va n vc] 56)) (w.heap.size + 1) #[.int .u8 123] [123] 1 rfl rfl (by simp) (by decide)
    rw [show bv [123] = [Value.int .u8 123] from rfl] at this
    simpa using this
  obtain ⟨w1, hw1⟩ : ∃ w1, w1 = w3.alloc (.cells #[.int .u64 lo, .slice va n vc] 56) := ⟨_, rfl⟩
  have hk1 : Kept (fun _ => False) w3 w1 := by rw [hw1]; exact Kept.alloc _ _ _
  have hs1 : w1.heap.size = w.heap.size + 4 := by rw [hw1]; simp [hs3]
  have hob : w1.heap[w.heap.size + 3]? = some (.cells #[.int .u64 lo, .slice va n vc] 56 (0, 0)) := by rw [hw1, ← hs3]; exact heap_alloc_new w3 _
  have hAll : AllAt w1 (w.heap.size + 3) M (.slice va hs.length vc) hs := by
    rw [HN.out, hw1, ← hs3, HLO.out]
    exact allAt_new (hw.kept hk3 (fun _ _ h => h)) hc (hT.kept hk3 (fun h => h))
  have hS := all_stopsM (TxS w.heap.size) (w.heap.size + 4) (w.heap.size + 3) M va vc hs w1 hAll (by rw [HN.out]; exact hl) (by omega) (fun h => by unfold TxS at h; omega)
    (fun k hk => by rw [HN.out] at hk; have := hwlt k hk; exact ⟨by omega, fun h => by unfold TxS at h; omega⟩) (by omega) (fun h => by unfold TxS at h; omega)
  rw [memM_all hc (by rw [HN.out]; exact hl)] at hS
  have h01 : TxAt w1 w.heap.size (.slice (some ⟨w.heap.size + 1, 0, none⟩) 1 1) (txt []) := by
    refine ⟨?_, hk1.owns hr3 (fun _ _ h => h), fun k hk => Or.inl ?_⟩
    · show w1.heap[_]? = _
      rw [hk1.block _ (by omega) (fun h => h)]; exact hb3
    · simpa [Value.ownBlock] using hk.symm
  have HW1 := Lib.hid hw1; have HW3 := Lib.hid hw3; have HS := Lib.hid hS; have H01 := Lib.hid h01; have HK := Lib.hid (hk3.then hk1)
  have HS1 := Lib.hid hs1; have HOB := Lib.hid hob; have HML := Lib.hid (memM_le M 4096)
  clear hw1 hw3 hS h01 hk1 hk3 hs3 hb3 hr3 hs1 hob hAll hc hw hwlt
  refine callsIn_of_wp_marks Tryd.func46 rfl trivial ?_ rfl
  simp only [Tryd.ntmps46, List.size_toArray, List.length_cons, List.length_nil, Nat.reduceAdd, Nat.reduceSub, Array.replicate_succ, Array.replicate_zero, List.push_toArray, List.append_toArray, List.nil_append, List.cons_append]
  gi_wp2_with (refine ⟨trivial, ?_⟩; gi_at_call 61; refine (callsIn_wide.2 (all_any _ lo va n vc)).mono ?_; rintro e w1' ⟨rfl, hw1'⟩)
  have hq : w1' = w1 := by rw [hw1', HW1.out, HW3.out]
  rw [← hw1']
  clear hw1'
  subst hq
  have hs1 := HS1.out
  obtain ⟨p3, hp3⟩ : ∃ p3, p3 = w.heap.size + 1 + 1 + 1 := ⟨_, rfl⟩
  rw [← hp3]
  have hS := HS.out
  rw [show w.heap.size + 3 = p3 from hp3.symm] at hS
  clear hp3
  obtain ⟨p2, hp2⟩ : ∃ p2, p2 = w.heap.size + 1 + 1 := ⟨_, rfl⟩
  rw [← hp2]
  have HP2 := Lib.hid hp2
  clear hp2
  refine wpIn_rangeFunc_ownG rfl (by omega) (gf := 86) (lb := #[.pointer (some ⟨p3, 0, none⟩)]) rfl trivial (enters_of Tryd.func86 (by kernel_rfl) rfl)
    hS KeepM.trans (fun W l o o' hl h h1 h2 => KeepM.putB W l o o' (by rw [hs1] at hl; exact hl) h h1 h2) (Below.refl _ _) (fun _ => rfl)
    (fun pre W => (∃ v, TxAt W w.heap.size v (txt (pre.map (·.1)))) ∧ KeepM (TxS w.heap.size) (w.heap.size + 4) w1' W)
    (fun _ _ _ => False) ?_
    (fun _ _ _ _ _ hs _ _ => hs)
    ⟨⟨_, H01.out⟩, KeepM.refl _ _ _⟩
    (fun x => { tmps := #[.agg #[.int .u64 lo, .slice va n vc], .pointer (some ⟨w.heap.size, 0, none⟩), .string ⟨#[]⟩, .pointer (some ⟨p2, 0, none⟩), .int .i64 x.1, .slice (some ⟨w.heap.size + 1, 0, none⟩) 1 1, .agg #[.int .u64 lo, .slice va n vc], .func (.func 86) #[] #[.pointer (some ⟨p3, 0, none⟩)], .int .i64 x.1, undef, undef, undef, undef, undef, undef, undef, undef, undef, undef, undef, undef, undef], defers := [] }) ?assign ?body ?done ?stop
  · refine OwnFrom.and (fun s W W' row hs hg hr => ?_) (ownFrom_keepM (by omega))
    obtain ⟨v, h⟩ := hs
    have := (holdsRow_own (w.heap.size + 1) (w.heap.size + 2) 76 5 1 (fun s : List Mem => (txt (s.map (·.1))).length) (fun s : List Mem => Lib.byteCells (txt (s.map (·.1)))) (fun _ v => ∀ k, v.ownBlock = some k → k = w.heap.size + 1 ∨ w.heap.size + 4 ≤ k)).from _ s W W' row ⟨v, h.box, h.row, h.at_⟩ hg hr
    exact this.imp fun v h => ⟨h.1, h.2.1, h.2.2⟩
  case assign =>
    intro l x W K hK
    gi_wp2
    exact hK
  case body =>
    rintro l pre x W ⟨⟨v, ht⟩, hB⟩ hlt
    obtain ⟨xi, hx0, hx1⟩ := x
    have hml := HML.out
    have hBs := hB.size
    have h3 : W.heap[w.heap.size + 3]? = some (.cells #[.int .u64 lo, .slice va n vc] 56 (0, 0)) := (hB.block _ (by omega) (by omega) (fun h => by unfold TxS at h; omega)).trans HOB.out
    have hle := txt_le (pre.map (·.1)) (fun y hy => by
      obtain ⟨z, _, rfl⟩ := List.mem_map.1 hy
      have := z.2
      omega)
    have hsn := txt_snoc (pre.map (·.1)) xi
    have hge := txt_len (pre.map (·.1))
    rw [List.length_map] at hle
    have hmp : (pre ++ [(⟨xi, hx0, hx1⟩ : Mem)]).map (·.1) = pre.map (·.1) ++ [xi] := by rw [List.map_append]; rfl
    have HTB : Hid (∀ W2, Below (w.heap.size + 1) W W2 → Lib.TabBelow Tryd.prog (w.heap.size + 1) W2 "internal/strconv.uint64pow10" .u64 Lib.pow10Tab) := fun W2 h2 =>
      tab_on hP ((HK.out.below (B := w.heap.size) (Nat.le_refl _) (fun _ h => h.elim)).trans ((hB.below (B := w.heap.size) (by omega) (by omega) (fun k hk h => by unfold TxS at h; omega)).trans (h2.mono (by omega)))) (by omega)
    generalize txt (pre.map (·.1)) = xs at *
    have hc : W.cell? ⟨p2, 0, none⟩ = some v := by rw [HP2.out]; exact ht.box.cell
    have hf : W.frozen? ⟨p2, 0, none⟩ = false := by rw [HP2.out]; exact ht.box.frozen
    have HFIN : Hid (∀ (ys : List UInt8) W2 v2, ys ++ Lib.itoa xi = txt ((pre ++ [(⟨xi, hx0, hx1⟩ : Mem)]).map (·.1)) → TxAt W2 w.heap.size v2 ys → KeepsFrom w1'.heap.size W W2 → KeepM (TxS w.heap.size) (w.heap.size + 4) W W2 →
        ∀ W3 v3, W3.ownsRow (w.heap.size + 1) 5 1 v3 (ys.length + (Lib.itoa xi).length) (Lib.byteCells ys ++ Lib.byteCells (Lib.itoa xi)) → Below (w.heap.size + 1) W2 W3 → Lib.OthersKept 5 none W2 W3 →
        (W3.cell? ⟨p2, 0, none⟩ = some v2 ∧ W3.frozen? ⟨p2, 0, none⟩ = false) ∧ KeepsFrom w1'.heap.size W (W3.setCell ⟨p2, 0, none⟩ v3) ∧ KeepM (TxS w.heap.size) (w.heap.size + 4) W (W3.setCell ⟨p2, 0, none⟩ v3) ∧
          (∃ v, TxAt (W3.setCell ⟨p2, 0, none⟩ v3) w.heap.size v (txt ((pre ++ [(⟨xi, hx0, hx1⟩ : Mem)]).map (·.1)))) ∧ KeepM (TxS w.heap.size) (w.heap.size + 4) w1' (W3.setCell ⟨p2, 0, none⟩ v3)) := by
      intro ys W2 v2 he ht2 hk2 hm2 W3 v3 ho3 hb3 hk3
      have h32 : W2.heap[w.heap.size + 3]? = some (.cells #[.int .u64 lo, .slice va n vc] 56 (0, 0)) := (hm2.block _ (by omega) (by omega) (fun h => by unfold TxS at h; omega)).trans h3
      have hbx := OthersKept.box hk3 ht2.box (by decide)
      have e2 : Lib.byteCells ys ++ Lib.byteCells (Lib.itoa xi) = Lib.byteCells (ys ++ Lib.itoa xi) := by simp [Lib.byteCells]
      rw [e2, ← List.length_append, he] at ho3
      obtain ⟨a1, a2, a3⟩ := tx_grow (v' := v3) ht2 h32 ho3 hb3 hk3 w1'.heap.size
      rw [HP2.out]
      exact ⟨⟨Boxed.cell hbx, Boxed.frozen hbx⟩, hk2.trans a2, hm2.trans a3, ⟨_, a1⟩, (hB.trans hm2).trans a3⟩
    have HT := Lib.hid ht; have HBB := Lib.hid hB; have H3 := Lib.hid h3
    have hW0 : w.heap.size + 1 ≤ W.heap.size := by omega
    have hrc := row_cells ht.row
    obtain ⟨N, hN⟩ : ∃ N, xs.length = N + 1 := ⟨xs.length - 1, by omega⟩
    have hrow := ht.row
    rw [hN] at hrow
    obtain ⟨g, cap, rfl⟩ := ownsRow_succ hrow
    have hNb : N ≤ 100000 := by omega
    have HSN : Hid (∀ ys, ys = (if 1 < xs.length then xs ++ [32] else xs) → ys ++ Lib.itoa xi = txt ((pre ++ [(⟨xi, hx0, hx1⟩ : Mem)]).map (·.1))) := fun ys e => by rw [hmp, hsn, e]
    have HROW := Lib.hid hrow; have HRC := Lib.hid hrc
    have HNN := Lib.hid hN
    clear hsn hmp hrow hrc hle hge ht hB h3 hml hlt hN
    by_cases h1 : 1 < xs.length
    · have h1' : (1 : Int) < (N : Int) + 1 := by have := HNN.out; omega
      have H1 := Lib.hid h1; clear h1
      gi_wp2_with (first
        | (gi_at_builtin; refine wpListIn_append_own_at _ rfl _ _ 76 rfl (w.heap.size + 1) 5 i0 (.int .u8 0) 1 1 Tryd.underlying76 hi hz0 hz1 hz2 rfl (by decide) _ _ _ rfl (HROW.out.alloc _) ⟨W.heap.size, 0, none⟩ 1 1 [.int .u8 32] rfl rfl (cell_one_new _ _ _) (by simp [Value.oneCell']) (by unfold maxLen; omega) (by omega) (by simp; omega) ?_
           intro v' W1 hown' hgrow _ hloc
           obtain ⟨g', cap', rfl⟩ := ownsRow_succ hown'
           have ho1 := others_grown hgrow (fun r e => (HRC.out r e).2)
           have hb1 : Below (w.heap.size + 1) W W1 := ((Below.refl (w.heap.size + 1) W).alloc hW0 _).grown hgrow (by simp; omega) (fun k e => (HRC.out k e).1)
           have e32 : Lib.byteCells xs ++ [.int .u8 32] = Lib.byteCells (xs ++ [32]) := by simp [Lib.byteCells]
           have hown2 : W1.ownsRow (w.heap.size + 1) 5 1 (.slice (some ⟨g', 0, none⟩) (N + 1 + 1) cap') (xs ++ [32]).length (Lib.byteCells (xs ++ [32])) := by rw [← e32, List.length_append, HNN.out]; exact hown'
           have hbx1 := OthersKept.box ho1 HT.out.box (by decide)
           have hc1 : W1.cell? ⟨p2, 0, none⟩ = some (.slice (some ⟨g, 0, none⟩) (N + 1) cap) := by rw [HP2.out]; exact Boxed.cell hbx1
           have hf1 : W1.frozen? ⟨p2, 0, none⟩ = false := by rw [HP2.out]; exact Boxed.frozen hbx1
           have hgr := tx_grow HT.out H3.out hown2 hb1 ho1 w1'.heap.size
           rw [show (⟨w.heap.size + 2, 0, none⟩ : Addr) = ⟨p2, 0, none⟩ by rw [HP2.out]] at hgr
           have HGR := Lib.hid hgr; have HO1 := Lib.hid ho1; have HB1 := Lib.hid hb1
           clear hown' hgrow hloc ho1 hb1 e32 hown2 hbx1 hgr)
        | (refine ⟨trivial, ?_⟩; gi_at_call 79
           obtain ⟨ht2, hk2, hm2⟩ := HGR.out
           have hrow2 := ht2.row
           have hl2 : (xs ++ [32]).length = N + 1 + 1 := by rw [List.length_append, HNN.out]; rfl
           rw [hl2] at hrow2
           have hb2 : Below (w.heap.size + 1) W (W1.setCell ⟨p2, 0, none⟩ (.slice (some ⟨g', 0, none⟩) (N + 1 + 1) cap')) := hm2.below (by omega) (by omega) (fun k hk h => by unfold TxS at h; omega)
           have hAI := sh_AppendInt (w.heap.size + 1) (N + 1 + 1) xi (by omega) (by omega) (.slice (some ⟨g', 0, none⟩) (N + 1 + 1) cap') (Lib.byteCells (xs ++ [32])) _ hrow2 (by have := hb2.size; omega) (by omega) (HTB.out _ hb2)
           have HF := HFIN.out (xs ++ [32]) _ _ (HSN.out (xs ++ [32]) (by rw [if_pos H1.out])) ht2 hk2 hm2
           rw [hl2] at HF
           refine (callsIn_wide.2 hAI).mono ?_; rintro e W3 ⟨v3, rfl, ho3, hb3, hk3⟩; obtain ⟨g3, cap3, rfl⟩ := row_slice ho3 (by omega); obtain ⟨⟨hc3, hf3⟩, hres⟩ := HF W3 _ ho3 hb3 hk3; have HRES := Lib.hid hres; clear hres ho3 hb3 hk3 HF hAI hrow2 hl2 ht2 hk2 hm2 hb2))
      exact HRES.out
    · have h1' : ¬ (1 : Int) < (N : Int) + 1 := by have := HNN.out; omega
      have hAI := sh_AppendInt (w.heap.size + 1) (N + 1) xi (by omega) (by omega) (.slice (some ⟨g, 0, none⟩) (N + 1) cap) (Lib.byteCells xs) W HROW.out hW0 (by omega) (HTB.out W (Below.refl _ _))
      have HAI := Lib.hid hAI
      have HF := Lib.hid (HFIN.out xs W _ (HSN.out xs (by rw [if_neg h1])) HT.out (KeepsFrom.refl _ _) (KeepM.refl _ _ _))
      rw [HNN.out] at HF
      clear hAI h1 HFIN
      gi_wp2_with (refine ⟨trivial, ?_⟩; gi_at_call 79; refine (callsIn_wide.2 HAI.out).mono ?_; rintro e W3 ⟨v3, rfl, ho3, hb3, hk3⟩; obtain ⟨g3, cap3, rfl⟩ := row_slice ho3 (by omega); obtain ⟨⟨hc3, hf3⟩, hres⟩ := HF.out W3 _ ho3 hb3 hk3; have HRES := Lib.hid hres; clear hres ho3 hb3 hk3)
      exact HRES.out
  case done =>
    rintro D ys W hD hys ⟨⟨v, ht⟩, hB⟩ hK
    have hml := HML.out
    have hBs := hB.size
    have hle := txt_le (ys.map (·.1)) (fun y hy => by
      obtain ⟨z, _, rfl⟩ := List.mem_map.1 hy
      have := z.2
      omega)
    have hge := txt_len (ys.map (·.1))
    have hl4 := congrArg List.length hys
    rw [List.length_map] at hle hl4
    have htx : txt (ys.map (·.1)) ++ [125] = textS M := by rw [hys]; rfl
    generalize txt (ys.map (·.1)) = xs at *
    have hc : W.cell? ⟨p2, 0, none⟩ = some v := by rw [HP2.out]; exact ht.box.cell
    have hrc := row_cells ht.row
    obtain ⟨N, hN⟩ : ∃ N, xs.length = N + 1 := ⟨xs.length - 1, by omega⟩
    have hrow := ht.row
    rw [hN] at hrow
    obtain ⟨g, cap, rfl⟩ := ownsRow_succ hrow
    have hNb : N ≤ 100000 := by omega
    have HROW := Lib.hid hrow; have HRC := Lib.hid hrc; have HT := Lib.hid ht; have HBB := Lib.hid hB; have HTX := Lib.hid htx; have HNN := Lib.hid hN; have HKD := Lib.hid hK
    clear hrow hrc ht hB htx hN hys hle hge hl4 hml hK
    gi_wp2_with (gi_at_builtin; refine wpListIn_append_own_at _ rfl _ _ 76 rfl (w.heap.size + 1) 5 i0 (.int .u8 0) 1 1 Tryd.underlying76 hi hz0 hz1 hz2 rfl (by decide) _ _ _ rfl (HROW.out.alloc _) ⟨W.heap.size, 0, none⟩ 1 1 [.int .u8 125] rfl rfl (cell_one_new _ _ _) (by simp [Value.oneCell']) (by unfold maxLen; omega) (by omega) (by simp; omega) ?_
                 intro v' W1 hown' hgrow _ hloc
                 obtain ⟨g', cap', rfl⟩ := ownsRow_succ hown'
                 have e25 : Lib.byteCells xs ++ [.int .u8 125] = Lib.byteCells (textS M) := by rw [← HTX.out]; simp [Lib.byteCells]
                 rw [e25] at hown'
                 have kc := conv_row hown' (by rw [← HTX.out, List.length_append, HNN.out]; rfl)
                 have HG := Lib.hid hgrow
                 clear hown' hgrow hloc)
    have hKD1 : W1.heap[D]? = some (.deferred (some [])) := by
      have hlt : D < W.heap.size := (Array.getElem?_eq_some_iff.1 HKD.out).1
      refine (HG.out.block D (by simp; omega) (fun e2 => ?_)).trans ((Below.heap_alloc W _ D hlt).trans HKD.out)
      obtain ⟨_, c, fz, h⟩ := HRC.out D e2.symm
      rw [HKD.out] at h
      cases h
    refine ⟨by simp, .inl ⟨_, _, rfl, run_takeDeferred hKD1, ?_⟩⟩
    have hm := (HBB.out.trans ((KeepM.grown (S := TxS w.heap.size) (M := w.heap.size + 4) (World.grownBy_alloc W _ none) (fun r e => by cases e)).trans (KeepM.grown HG.out (fun r e => (HT.out.at_ r e).elim (fun h => Or.inr (Or.inl h)) Or.inl)))).trans (KeepM.putB W1 D _ (.deferred none) (by omega) hKD1 rfl rfl)
    exact ⟨_, results_tmp rfl _ _ _, rfl, HK.out.trans (hm.kept (by omega)) (fun _ _ h => h.elim) (fun i hi h => by unfold TxS at h; omega)⟩
  case stop =>
    rintro D c pre W _ _ h _
    exact h.elim

/-- The text of a set. -/
theorem text_any (w : World) (v : Value) (M : Nat) (h : SetV w v M) (hS : Small M) (hT : Tz w) (hP : Lib.TabBelow Tryd.prog w.heap.size w "internal/strconv.uint64pow10" .u64 Lib.pow10Tab) :
    Calls Tryd.prog 46 #[v] w fun e w' => e = .returned (.string ⟨(textS M).toArray⟩) ∧ Kept (fun _ => False) w w' := by
  obtain ⟨hv, hs, rfl, hw, hc, -⟩ := h.ex
  obtain ⟨va, vc, rfl⟩ := hw.form
  exact text_at w _ _ vc va M hs rfl rfl hw hc (hc.small hS) hT hP
end Go.Proofs.YtccanbjnbmihgaaDoor
/-
  slices.Equal of ints and of bytes.
-/
namespace Go.Proofs.YtccanbjnbmihgaaDoor
open Go.RowKit

theorem take_eq_succ' {α : Type} {d : α} {xs ys : List α} {k : Nat} (h : xs.take k = ys.take k) (hx : k < xs.length) (hy : k < ys.length) (he : xs.getD k d = ys.getD k d) : xs.take (k + 1) = ys.take (k + 1) := by
  rw [List.take_succ_eq_append_getElem hx, List.take_succ_eq_append_getElem hy, h]
  simp only [List.getD_eq_getElem?_getD, List.getElem?_eq_getElem hx, List.getElem?_eq_getElem hy, Option.getD_some] at he
  rw [he]
theorem ints_form {w : World} {v : Value} {xs : List Int} (h : Ints w v xs) : ∃ a c, v = .slice a xs.length c ∧ xs.length ≤ maxLen ∧ ∀ i, i < xs.length → ∃ g off, a = some ⟨g, off, none⟩ ∧ g < w.heap.size ∧ w.cell? ⟨g, off + i, none⟩ = some (.int .i64 (xs.getD i 0)) := by
  rcases h with ⟨h, h2⟩ | ⟨g, off, cap, h, h1, h3, h4, h5⟩
  · exact ⟨none, 0, by rw [h, h2]; rfl, by rw [h2]; simp, fun i hi => by rw [h2] at hi; simp at hi⟩
  · exact ⟨_, _, h, by omega, fun i hi => ⟨g, off, rfl, h4, h5 i hi⟩⟩

theorem reads_form {w : World} {v : Value} {xs : List Nat} (h : Reads w v xs) : ∃ a c, v = .slice a xs.length c ∧ xs.length ≤ maxLen ∧ ∀ i, i < xs.length → ∃ g off, a = some ⟨g, off, none⟩ ∧ g < w.heap.size ∧ w.cell? ⟨g, off + i, none⟩ = some (.int .u8 (xs.getD i 0 : Nat)) := by
  rcases h with ⟨h, h2⟩ | ⟨g, off, cap, h, h1, h3, h4, h5⟩
  · exact ⟨none, 0, by rw [h, h2]; rfl, by rw [h2]; simp, fun i hi => by rw [h2] at hi; simp at hi⟩
  · exact ⟨_, _, h, by omega, fun i hi => ⟨g, off, rfl, h4, h5 i hi⟩⟩

set_option maxRecDepth 100000 in
set_option maxHeartbeats 1600000 in
theorem equali_any (w : World) (v u : Value) (xs ys : List Int) (hv : Ints w v xs) (hu : Ints w u ys) :
    Calls Tryd.prog 25 #[v, u] w fun e w' => e = .returned (.bool (decide (xs = ys))) ∧ Kept (fun _ => False) w w' := by
  obtain ⟨a, c, rfl, hm, hx⟩ := ints_form hv
  obtain ⟨a', c', rfl, hm', hy⟩ := ints_form hu
  have HX := Lib.hid hx; have HY := Lib.hid hy
  clear hx hy hv hu
  have hm1 : xs.length ≤ 9223372036854775807 := by unfold maxLen at hm; omega
  obtain ⟨n, hn⟩ : ∃ n, n = xs.length := ⟨_, rfl⟩
  obtain ⟨m, hmm⟩ : ∃ m, m = ys.length := ⟨_, rfl⟩
  rw [← hn, ← hmm]
  by_cases hne : n = m
  · have hyl : ys.length = n := by omega
    subst hne
    clear hmm
    go_enter Tryd.func25, Tryd.ntmps25
    rw [← hn] at hm1
    have HN := Lib.hid hn; have HYL := Lib.hid hyl; clear hn hyl hm hm'
    go_wp2_with fail
    go_loopw [13] (fun iv wr => ∃ k : Nat, k ≤ n ∧ iv = .int .i64 k ∧ Hid (xs.take k = ys.take k) ∧ Kept (fun _ => False) w wr) (fun iv _ => n - (intOf iv).toNat)
    case atStart => exact ⟨0, Nat.zero_le _, rfl, rfl, Kept.refl _ _⟩
    case round =>
      obtain ⟨k, hk, rfl, ht, hkw⟩ := hrel
      by_cases hlt : k < n
      · have hlt' : (k : Int) < (n : Int) := by omega
        have hk0 : (0 : Int) ≤ (k : Int) := by omega
        obtain ⟨g, off, rfl, hg, hc⟩ := HX.out k (by rw [← HN.out]; exact hlt)
        obtain ⟨g', off', rfl, hg', hc'⟩ := HY.out k (by rw [HYL.out]; exact hlt)
        obtain ⟨x, hx⟩ : ∃ x, x = xs.getD k 0 := ⟨_, rfl⟩
        obtain ⟨y, hy⟩ : ∃ y, y = ys.getD k 0 := ⟨_, rfl⟩
        rw [← hx] at hc
        rw [← hy] at hc'
        have c1 := (hkw.cell (p := ⟨g, off + k, none⟩) hg (fun h => h)).trans hc
        have c2 := (hkw.cell (p := ⟨g', off' + k, none⟩) hg' (fun h => h)).trans hc'
        have HX1 := Lib.hid hx; have HY1 := Lib.hid hy; clear hx hy hc hc'
        by_cases hxy : x = y
        · subst hxy
          go_wp2_with fail
          go_quiet (fail)
          go_wp2_with fail
          go_roundw
          case rel => exact ⟨k + 1, by omega, by go_num, take_eq_succ' ht.out (by rw [← HN.out]; exact hlt) (by rw [HYL.out]; exact hlt) (by rw [← HX1.out, ← HY1.out]), hkw.drewN _⟩
          case measure => simp [intOf]; omega
        · have hb : ((x : Int) == (y : Int)) = false := by simp; omega
          go_wp2_with fail
          go_quiet (fail)
          go_wp2_with fail
          go_ret
          refine ⟨?_, hkw.drewN _⟩
          have : decide (xs = ys) = false := by
            simp only [decide_eq_false_iff_not]
            intro e
            exact hxy (by rw [HX1.out, HY1.out, e])
          rw [this]; rfl
      · obtain rfl : k = n := by omega
        go_wp2_with fail
        go_ret
        refine ⟨?_, hkw⟩
        have h := ht.out
        rw [List.take_of_length_le (by rw [← HN.out]; exact Nat.le_refl _), List.take_of_length_le (by rw [HYL.out]; exact Nat.le_refl _)] at h
        rw [show decide (xs = ys) = true by simpa using h]; rfl
  · have hd : decide (xs = ys) = false := by
      simp only [decide_eq_false_iff_not]
      intro e
      exact hne (by rw [hn, hmm, e])
    rw [hd]
    have hb : ((n : Int) == (m : Int)) = false := by simp; omega
    clear hd hn hmm hm1 hm hm'
    go_enter Tryd.func25, Tryd.ntmps25
    go_wp2_with fail
    go_ret
    exact ⟨rfl, Kept.refl _ _⟩


set_option maxRecDepth 100000 in
set_option maxHeartbeats 1600000 in
theorem equalb_any (w : World) (v u : Value) (xs ys : List Nat) (hv : Reads w v xs) (hu : Reads w u ys) :
    Calls Tryd.prog 39 #[v, u] w fun e w' => e = .returned (.bool (decide (xs = ys))) ∧ Kept (fun _ => False) w w' := by
  obtain ⟨a, c, rfl, hm, hx⟩ := reads_form hv
  obtain ⟨a', c', rfl, hm', hy⟩ := reads_form hu
  have HX := Lib.hid hx; have HY := Lib.hid hy
  clear hx hy hv hu
  have hm1 : xs.length ≤ 9223372036854775807 := by unfold maxLen at hm; omega
  obtain ⟨n, hn⟩ : ∃ n, n = xs.length := ⟨_, rfl⟩
  obtain ⟨m, hmm⟩ : ∃ m, m = ys.length := ⟨_, rfl⟩
  rw [← hn, ← hmm]
  by_cases hne : n = m
  · have hyl : ys.length = n := by omega
    subst hne
    clear hmm
    go_enter Tryd.func39, Tryd.ntmps39
    rw [← hn] at hm1
    have HN := Lib.hid hn; have HYL := Lib.hid hyl; clear hn hyl hm hm'
    go_wp2_with fail
    go_loopw [13] (fun iv wr => ∃ k : Nat, k ≤ n ∧ iv = .int .i64 k ∧ Hid (xs.take k = ys.take k) ∧ Kept (fun _ => False) w wr) (fun iv _ => n - (intOf iv).toNat)
    case atStart => exact ⟨0, Nat.zero_le _, rfl, rfl, Kept.refl _ _⟩
    case round =>
      obtain ⟨k, hk, rfl, ht, hkw⟩ := hrel
      by_cases hlt : k < n
      · have hlt' : (k : Int) < (n : Int) := by omega
        have hk0 : (0 : Int) ≤ (k : Int) := by omega
        obtain ⟨g, off, rfl, hg, hc⟩ := HX.out k (by rw [← HN.out]; exact hlt)
        obtain ⟨g', off', rfl, hg', hc'⟩ := HY.out k (by rw [HYL.out]; exact hlt)
        obtain ⟨x, hx⟩ : ∃ x, x = xs.getD k 0 := ⟨_, rfl⟩
        obtain ⟨y, hy⟩ : ∃ y, y = ys.getD k 0 := ⟨_, rfl⟩
        rw [← hx] at hc
        rw [← hy] at hc'
        have c1 := (hkw.cell (p := ⟨g, off + k, none⟩) hg (fun h => h)).trans hc
        have c2 := (hkw.cell (p := ⟨g', off' + k, none⟩) hg' (fun h => h)).trans hc'
        have HX1 := Lib.hid hx; have HY1 := Lib.hid hy; clear hx hy hc hc'
        by_cases hxy : x = y
        · subst hxy
          go_wp2_with fail
          go_quiet (fail)
          go_wp2_with fail
          go_roundw
          case rel => exact ⟨k + 1, by omega, by go_num, take_eq_succ' ht.out (by rw [← HN.out]; exact hlt) (by rw [HYL.out]; exact hlt) (by rw [← HX1.out, ← HY1.out]), hkw.drewN _⟩
          case measure => simp [intOf]; omega
        · have hb : ((x : Int) == (y : Int)) = false := by simp; omega
          go_wp2_with fail
          go_quiet (fail)
          go_wp2_with fail
          go_ret
          refine ⟨?_, hkw.drewN _⟩
          have : decide (xs = ys) = false := by
            simp only [decide_eq_false_iff_not]
            intro e
            exact hxy (by rw [HX1.out, HY1.out, e])
          rw [this]; rfl
      · obtain rfl : k = n := by omega
        go_wp2_with fail
        go_ret
        refine ⟨?_, hkw⟩
        have h := ht.out
        rw [List.take_of_length_le (by rw [← HN.out]; exact Nat.le_refl _), List.take_of_length_le (by rw [HYL.out]; exact Nat.le_refl _)] at h
        rw [show decide (xs = ys) = true by simpa using h]; rfl
  · have hd : decide (xs = ys) = false := by
      simp only [decide_eq_false_iff_not]
      intro e
      exact hne (by rw [hn, hmm, e])
    rw [hd]
    have hb : ((n : Int) == (m : Int)) = false := by simp; omega
    clear hd hn hmm hm1 hm hm'
    go_enter Tryd.func39, Tryd.ntmps39
    go_wp2_with fail
    go_ret
    exact ⟨rfl, Kept.refl _ _⟩


end Go.Proofs.YtccanbjnbmihgaaDoor
/-
  arbaclaw12.awake: the chapter's examples hold.
-/
namespace Go.Proofs.YtccanbjnbmihgaaDoor
open Go.RowKit
set_option linter.unusedVariables false
set_option linter.unusedSimpArgs false

/-- The library's tables that a set's text reads. -/
structure Lb2 (w : World) : Prop where
  tz : Tz w
  pow : Lib.TabIs Tryd.prog w "internal/strconv.uint64pow10" .u64 Lib.pow10Tab
theorem lb2_cell {a b : World} (hb : Below a.heap.size a b) {p : Addr} {v : Value} (h : a.cell? p = some v) : b.cell? p = some v :=
  (hb.cell (World.block_lt_of_cell? a _ h)).trans h
theorem Lb2.kept {a b : World} (h : Lb2 a) (hk : Kept (fun _ => False) a b) : Lb2 b := by
  have hb : Below a.heap.size a b := hk.below (Nat.le_refl _) (fun _ h => h.elim)
  exact ⟨⟨Nat.lt_of_lt_of_le h.tz.lt hb.size, fun j hj => lb2_cell hb (h.tz.tab j hj)⟩, (Lib.tabBelow_of_tabIs h.pow) b hb⟩
theorem Lb2.tabP {w : World} (h : Lb2 w) : Lib.TabBelow Tryd.prog w.heap.size w "internal/strconv.uint64pow10" .u64 Lib.pow10Tab := Lib.tabBelow_of_tabIs h.pow

theorem bv_getDm (xs : List Nat) (i : Nat) (h : i < xs.length) : (bv xs)[i]? = some (.int .u8 (xs.getD i 0 : Nat)) := by simp [bv, List.getD, h]
theorem rd_lit (w : World) (cs : Array Value) (T : TypeId) (xs : List Nat) (n : Nat) (hn : n = xs.length) (hcs : cs.toList = bv xs) (hm : xs.length ≤ maxLen) :
    Reads (w.alloc (.cells cs T)) (.slice (some ⟨w.heap.size, 0, none⟩) n n) xs := by
  subst hn
  refine Or.inr ⟨w.heap.size, 0, xs.length, rfl, Nat.le_refl _, hm, by simp, fun i hi => ?_⟩
  rw [Nat.zero_add, cell_of_row _ w.heap.size i cs T (0, 0) (heap_alloc_new w _), ← Array.getElem?_toList, hcs, bv_getDm xs i hi]
theorem it_lit (w : World) (cs : Array Value) (T : TypeId) (xs : List Int) (n : Nat) (hn : n = xs.length) (hcs : cs.toList = xs.map (Value.int .i64)) (hm : xs.length ≤ maxLen) :
    Ints (w.alloc (.cells cs T)) (.slice (some ⟨w.heap.size, 0, none⟩) n n) xs := by
  subst hn
  refine Or.inr ⟨w.heap.size, 0, xs.length, rfl, Nat.le_refl _, hm, by simp, fun i hi => ?_⟩
  rw [Nat.zero_add, cell_of_row _ w.heap.size i cs T (0, 0) (heap_alloc_new w _), ← Array.getElem?_toList, hcs]
  simp [List.getD, hi]

theorem text_40 : textS 40 = [123, 51, 32, 53, 125] := by
  have e : memM 40 4096 = [3, 5] := by decide +kernel
  have e1 : Lib.itoa 3 = [51] := Lib.itoa_nonneg 3 |>.trans (Lib.decDigits_one (by omega))
  have e5 : Lib.itoa 5 = [53] := Lib.itoa_nonneg 5 |>.trans (Lib.decDigits_one (by omega))
  unfold textS
  rw [e]
  simp [txt, e1, e5]
theorem text_32 : textS 32 = [123, 53, 125] := by
  have e : memM 32 4096 = [5] := by decide +kernel
  have e5 : Lib.itoa 5 = [53] := Lib.itoa_nonneg 5 |>.trans (Lib.decDigits_one (by omega))
  unfold textS
  rw [e]
  simp [txt, e5]

def hA : Nat → List Ent := upd (fun _ => []) 2 (putR [] ⟨2, 5, 10⟩)
def hB : Nat → List Ent := upd hA 2 (putR (hA 2) ⟨2, 3, 7⟩)
def hC : Nat → List Ent := upd hB 2 (putR (hB 2) ⟨2, 3, 4⟩)
def hD : Nat → List Ent := upd (fun _ => []) 1 (putR [] ⟨1, 2, 300⟩)
theorem aw_u : untE (rowOf hB 2) 3 = (7, true) := by decide +kernel
theorem aw_1 : onM (rowOf hB 2) 7 = 40 := by decide +kernel
theorem aw_2 : onM (rowOf hB 2) 8 = 32 := by decide +kernel
theorem aw_3 : usersS hB 5 10 257 = [2] := by decide +kernel
theorem aw_4 : onM (rowOf hC 2) 7 = 32 := by decide +kernel
theorem aw_5 : (allE (fun u => (hC u).filter (keepE 8))).length = 1 := by decide +kernel
theorem aw_6 : bytesE (allE hD) = [1, 1, 2, 130, 44] := by decide +kernel
theorem small_40 : Small 40 := fun e he => Nat.lt_of_lt_of_le (show 40 < 2 ^ 6 by decide) (Nat.pow_le_pow_right (by omega) (by omega))
theorem small_32 : Small 32 := fun e he => Nat.lt_of_lt_of_le (show 32 < 2 ^ 6 by decide) (Nat.pow_le_pow_right (by omega) (by omega))

set_option maxRecDepth 100000 in
set_option maxHeartbeats 6400000 in
theorem awake12_any (w : World) (hL : Lb2 w) : Calls Tryd.prog 12 #[] w fun e w' => e = .returned (.bool true) ∧ Kept (fun _ => False) w w' := by
  have HL := Lib.hid hL
  clear hL
  go_enter Tryd.func12, Tryd.ntmps12
  go_wp2_with fail
  refine (mnew_any w).mono ?_
  rintro e w1 ⟨v1, rfl, b1, k1⟩
  have B1 := Lib.hid b1; have K1 := Lib.hid k1
  obtain ⟨p1, _, rfl, -, -⟩ := b1
  clear k1
  go_wp2_with fail
  refine (assign_any w1 _ 0 _ 2 5 10 B1.out (by omega) (by omega) (by omega) (by omega) (by omega) (by omega) (by omega)).mono ?_
  rintro e w2 ⟨v2, rfl, b2, k2⟩
  have B2 : Hid (BookV w2 v2 1 hA) := Lib.hid b2; have K2 := Lib.hid (K1.out.then k2)
  obtain ⟨p2, _, rfl, -, -⟩ := b2
  clear k2 K1 B1
  go_wp2_with fail
  refine (assign_any w2 _ 1 _ 2 3 7 B2.out (by omega) (by omega) (by omega) (by omega) (by omega) (by omega) (by omega)).mono ?_
  rintro e w3 ⟨v3, rfl, b3, k3⟩
  have B3 : Hid (BookV w3 v3 2 hB) := Lib.hid b3; have K3 := Lib.hid (K2.out.then k3)
  obtain ⟨p3, _, rfl, -, -⟩ := b3
  clear k3 K2 B2
  go_wp2_with fail
  refine (assign_any w3 _ 2 _ 2 3 4 B3.out (by omega) (by omega) (by omega) (by omega) (by omega) (by omega) (by omega)).mono ?_
  rintro e w4 ⟨v4, rfl, b4, k4⟩
  have B4 : Hid (BookV w4 v4 3 hC) := Lib.hid b4; have K4 := Lib.hid (K3.out.then k4)
  obtain ⟨p4, _, rfl, -, -⟩ := b4
  replace B3 := Lib.hid (B3.out.kept k4)
  clear k4 K3
  go_wp2_with fail
  refine (mnew_any w4).mono ?_
  rintro e w5 ⟨v5, rfl, b5, k5⟩
  have B5 := Lib.hid b5; have K5 := Lib.hid (K4.out.then k5)
  replace B3 := Lib.hid (B3.out.kept k5); replace B4 := Lib.hid (B4.out.kept k5)
  obtain ⟨p5, _, rfl, -, -⟩ := b5
  clear k5 K4
  go_wp2_with fail
  refine (assign_any w5 _ 0 _ 1 2 300 B5.out (by omega) (by omega) (by omega) (by omega) (by omega) (by omega) (by omega)).mono ?_
  rintro e w6 ⟨v6, rfl, b6, k6⟩
  have B6 : Hid (BookV w6 v6 1 hD) := Lib.hid b6; have K6 := Lib.hid (K5.out.then k6)
  replace B3 := Lib.hid (B3.out.kept k6); replace B4 := Lib.hid (B4.out.kept k6)
  obtain ⟨p6, _, rfl, -, -⟩ := b6
  clear k6 K5 B5
  go_wp2_with fail
  refine (until_any w6 _ 2 hB 2 3 B3.out (by omega)).mono ?_
  rw [aw_u]
  rintro e w7 ⟨rfl, k7⟩
  have K7 := Lib.hid (K6.out.then k7)
  replace B3 := Lib.hid (B3.out.kept k7); replace B4 := Lib.hid (B4.out.kept k7); replace B6 := Lib.hid (B6.out.kept k7)
  clear k7 K6
  go_wp2_with fail
  refine (on_any w7 _ 2 hB 2 7 B3.out (by omega)).mono ?_
  rw [aw_1]
  rintro e w8 ⟨v8, rfl, s8, _, k8⟩
  have K8 := Lib.hid (K7.out.then k8); have S8 := Lib.hid s8
  replace B3 := Lib.hid (B3.out.kept k8); replace B4 := Lib.hid (B4.out.kept k8); replace B6 := Lib.hid (B6.out.kept k8)
  clear k8 K7 s8
  go_wp2_with fail
  refine (text_any w8 _ 40 S8.out small_40 (HL.out.kept K8.out).tz (HL.out.kept K8.out).tabP).mono ?_
  rw [text_40]
  rintro e w9 ⟨rfl, k9⟩
  have K9 := Lib.hid (K8.out.then k9)
  replace B3 := Lib.hid (B3.out.kept k9); replace B4 := Lib.hid (B4.out.kept k9); replace B6 := Lib.hid (B6.out.kept k9)
  clear k9 K8 S8
  go_wp2_with fail
  refine (on_any w9 _ 2 hB 2 8 B3.out (by omega)).mono ?_
  rw [aw_2]
  rintro e w10 ⟨v10, rfl, s10, _, k10⟩
  have K10 := Lib.hid (K9.out.then k10); have S10 := Lib.hid s10
  replace B3 := Lib.hid (B3.out.kept k10); replace B4 := Lib.hid (B4.out.kept k10); replace B6 := Lib.hid (B6.out.kept k10)
  clear k10 K9 s10
  go_wp2_with fail
  refine (text_any w10 _ 32 S10.out small_32 (HL.out.kept K10.out).tz (HL.out.kept K10.out).tabP).mono ?_
  rw [text_32]
  rintro e w11 ⟨rfl, k11⟩
  have K11 := Lib.hid (K10.out.then k11)
  replace B3 := Lib.hid (B3.out.kept k11); replace B4 := Lib.hid (B4.out.kept k11); replace B6 := Lib.hid (B6.out.kept k11)
  clear k11 K10 S10
  go_wp2_with fail
  refine (users_any w11 _ 2 hB 5 10 B3.out (by omega)).mono ?_
  rw [aw_3]
  rintro e w12 ⟨v12, rfl, o12, k12⟩
  have K12 := Lib.hid (K11.out.then k12); have O12 := Lib.hid o12.ints
  replace B4 := Lib.hid (B4.out.kept k12); replace B6 := Lib.hid (B6.out.kept k12)
  clear k12 K11 o12 B3
  go_wp2_with fail
  refine (equali_any _ _ _ [2] [2] (O12.out.kept (Kept.alloc (fun _ => False) _ _) (fun _ _ h => h)) (it_lit w12 _ _ [2] 1 rfl rfl (by decide))).mono ?_
  rintro e w13 ⟨rfl, k13⟩
  have kk := (Kept.alloc (fun _ => False) w12 _).then k13
  have K13 := Lib.hid (K12.out.then kk)
  replace B4 := Lib.hid (B4.out.kept kk); replace B6 := Lib.hid (B6.out.kept kk)
  clear k13 K12 O12 kk
  go_wp2_with fail
  refine (on_any w13 _ 3 hC 2 7 B4.out (by omega)).mono ?_
  rw [aw_4]
  rintro e w14 ⟨v14, rfl, s14, _, k14⟩
  have K14 := Lib.hid (K13.out.then k14); have S14 := Lib.hid s14
  replace B4 := Lib.hid (B4.out.kept k14); replace B6 := Lib.hid (B6.out.kept k14)
  clear k14 K13 s14
  go_wp2_with fail
  refine (text_any w14 _ 32 S14.out small_32 (HL.out.kept K14.out).tz (HL.out.kept K14.out).tabP).mono ?_
  rw [text_32]
  rintro e w15 ⟨rfl, k15⟩
  have K15 := Lib.hid (K14.out.then k15)
  replace B4 := Lib.hid (B4.out.kept k15); replace B6 := Lib.hid (B6.out.kept k15)
  clear k15 K14 S14
  go_wp2_with fail
  refine (expire_any w15 _ 3 hC 8 B4.out (by omega)).mono ?_
  rintro e w16 ⟨v16, rfl, b16, k16⟩
  have K16 := Lib.hid (K15.out.then k16); have B16 := Lib.hid b16
  replace B6 := Lib.hid (B6.out.kept k16)
  clear k16 K15 b16 B4
  go_wp2_with fail
  refine (mlen_any w16 _ 3 _ B16.out (by omega)).mono ?_
  rw [aw_5]
  rintro e w17 ⟨rfl, rfl⟩
  clear B16
  go_wp2_with fail
  refine (mbytes_any w16 _ 1 hD B6.out (by omega)).mono ?_
  rw [aw_6]
  rintro e w18 ⟨v18, rfl, f18, k18⟩
  have K18 := Lib.hid (K16.out.then k18); have F18 := Lib.hid f18.reads
  clear k18 K16 f18 B6
  go_wp2_with fail
  refine (equalb_any _ _ _ [1, 1, 2, 130, 44] [1, 1, 2, 130, 44] (F18.out.kept (Kept.alloc (fun _ => False) _ _) (fun _ _ h => h)) (rd_lit w18 _ _ [1, 1, 2, 130, 44] 5 rfl rfl (by decide))).mono ?_
  rintro e w19 ⟨rfl, k19⟩
  have K19 := Lib.hid (K18.out.then ((Kept.alloc (fun _ => False) w18 _).then k19))
  clear k19 K18 F18
  go_wp2_with fail
  go_ret
  exact ⟨rfl, K19.out⟩
end Go.Proofs.YtccanbjnbmihgaaDoor
/-
  A slice of bytes that came in as an argument: it reads as bytes.
-/
namespace Go.Proofs.YtccanbjnbmihgaaDoor
open Go.RowKit

/-- A slice that came in is nil, or lies in memory. -/
theorem okWide_at {P : Program} {W : World} {base : Nat} {t e : TypeId} {a : Addr} {len cap : Nat} (ht : P.underlying t = some (.slice e)) (h : Value.okWide P W .any base t (.slice (some a) len cap)) :
    a.spot = none ∧ a.block < W.heap.size := by
  simp only [Value.okWide, ht, Cell.okWide, Cell.ok] at h
  obtain ⟨_, _, h⟩ := h
  obtain ⟨_, hs, row, cells, hsh, _⟩ := h
  refine ⟨hs, ?_⟩
  by_cases hb : a.block < W.heap.size
  · exact hb
  · exfalso
    unfold World.shape? at hsh
    rw [Array.getElem?_eq_none (by omega)] at hsh
    simp at hsh

/-- An argument of bytes. -/
structure InBytes (w : World) (v : Value) (xs : List Nat) : Prop where
  reads : Reads w v xs
  byte : ∀ b ∈ xs, b < 256

theorem in_bytes {P : Program} {W : World} {base : Nat} {t e : TypeId} {a : Option Addr} {len cap : Nat} {zs : List Int} (ht : P.underlying t = some (.slice e)) (h : Value.okWide P W .any base t (.slice a len cap))
    (hr : (a = none ∧ len = 0 ∧ cap = 0 ∧ zs = []) ∨ ∃ x, a = some x ∧ len ≤ cap ∧ cap ≤ maxLen ∧ zs.length = cap ∧ (∀ i, i < zs.length → W.cell? (x.add i) = some (.int .u8 (zs.getD i 0))) ∧ ∀ n ∈ zs, (Lit.int .u8 n).wf = true) :
    ∃ xs, InBytes W (.slice a len cap) xs := by
  rcases hr with ⟨rfl, rfl, rfl, rfl⟩ | ⟨x, rfl, hl, hm, hz, hc, hw⟩
  · exact ⟨[], Or.inl ⟨rfl, rfl⟩, by simp⟩
  · obtain ⟨hs, hb⟩ := okWide_at ht h
    obtain ⟨g, off, spot⟩ := x
    simp only at hs hb
    subst hs
    have hn : ∀ n ∈ zs, ∃ m : Nat, n = (m : Int) ∧ m < 256 := by
      intro n hn
      have := hw n hn
      simp [Lit.wf, IntKind.min, IntKind.max, IntKind.signed, IntKind.bits] at this
      exact ⟨n.toNat, by omega, by omega⟩
    have hlen : ((zs.take len).map Int.toNat).length = len := by simp; omega
    refine ⟨(zs.take len).map Int.toNat, Or.inr ⟨g, off, cap, by rw [hlen], by omega, hm, hb, fun i hi => ?_⟩, ?_⟩
    · rw [hlen] at hi
      have hadd : (⟨g, off, none⟩ : Addr).add i = ⟨g, off + i, none⟩ := by unfold Addr.add; split <;> simp_all
      have := hc i (by omega)
      rw [hadd] at this
      rw [this]
      have hiz : i < zs.length := by omega
      obtain ⟨m, hm1, hm2⟩ := hn (zs.getD i 0) (by simp [List.getD, hiz])
      have h1 : (List.map Int.toNat (List.take len zs)).getD i 0 = (zs.getD i 0).toNat := by
        simp [List.getD, hi, hiz]
      rw [h1, hm1]
      simp
    · intro b hb
      simp only [List.mem_map] at hb
      obtain ⟨n, hn1, rfl⟩ := hb
      obtain ⟨m, rfl, hm2⟩ := hn n (List.mem_of_mem_take hn1)
      simpa using hm2

theorem InBytes.kept {S : Nat → Prop} {a b : World} {v : Value} {xs : List Nat} (h : InBytes a v xs) (hk : Kept S a b) (hn : ∀ k, v.ownBlock = some k → ¬ S k) : InBytes b v xs := ⟨h.reads.kept hk hn, h.byte⟩

end Go.Proofs.YtccanbjnbmihgaaDoor
/-
  From the rows' condition (the library's tables read as listed) to what the walks of membership ask for.
-/
namespace Go.Proofs.YtccanbjnbmihgaaDoor
open Go.ChangeShapes Go.WideShapes Go.ChangeAt Go.RowKit
set_option maxRecDepth 100000

def laidB : List (String × DataW Unit) := [("math/bits.deBruijn32tab", Rows.laid_math_bits_deBruijn32tab), ("math/bits.deBruijn64tab", Rows.laid_math_bits_deBruijn64tab), ("internal/strconv.uint64pow10", Rows.laid_internal_strconv_uint64pow10)]
def tabZ : List Int := Lib.deBruijn64tab.map fun n : Nat => (n : Int)
theorem d_tz : (Rows.laid_math_bits_deBruijn64tab : DataW Unit) = Lib.tabData .u8 tabZ := by kernel_rfl
theorem d_pow : (Rows.laid_internal_strconv_uint64pow10 : DataW Unit) = Lib.tabData .u64 Lib.pow10Tab := by kernel_rfl

theorem tabIs_of_reads {P : Program} {W : World} {name : String} {k : IntKind} {zs : List Int} {g : Nat} {t e : TypeId} {n : Nat}
    (hg : P.globalNamed name = some g) (hty : (P.globals[g]?).map (·.type) = some t) (ht : P.underlying t = some (.array n e)) (he : P.underlying e = some (.int k)) (hce : P.cellsOf e = 1) (hct : P.cellsOf t = n)
    (h : Lib.VarReads P W name (Lib.tabData k zs)) : Lib.TabIs P W name k zs := by
  obtain ⟨g', t', cs, fuel, p, hg', ht', hvar, hd⟩ := h
  obtain rfl := Option.some.inj (hg.symm.trans hg')
  obtain rfl := Option.some.inj (hty.symm.trans ht')
  unfold Lib.TabIs
  rw [hvar, ← Lib.cells_of_tab ht he hce hct hd]

theorem gTz : Tryd.prog.globalNamed "math/bits.deBruijn64tab" = some 0 := by kernel_rfl
theorem lb2_of_laid {W : World} (h : laidMetH Tryd.prog laidB W) : Lb2 W := by
  rw [MakeChecks.laidMetH_plain _ _ _ (by kernel_rfl)] at h
  have r1 : Lib.VarReads Tryd.prog W "math/bits.deBruijn64tab" (Lib.tabData .u8 tabZ) := d_tz ▸ Lib.laidMet.reads h (.tail _ (.head _))
  have r2 : Lib.VarReads Tryd.prog W "internal/strconv.uint64pow10" (Lib.tabData .u64 Lib.pow10Tab) := d_pow ▸ Lib.laidMet.reads h (.tail _ (.tail _ (.head _)))
  have t1 := tabIs_of_reads gTz (t := 145) (by kernel_rfl) Tryd.underlying145 Tryd.underlying5 (by kernel_rfl) (by kernel_rfl) r1
  have hl : tabZ.length = 64 := by kernel_rfl
  have hl2 : Lib.deBruijn64tab.length = 64 := by kernel_rfl
  have hc : ∀ i, i < 64 → W.cell? ⟨0, i, none⟩ = some (.int .u8 (Lib.deBruijn64tab.getD i 0 : Nat)) := fun i hi => by
    rw [t1.cell gTz i (by omega)]
    have hi2 : i < Lib.deBruijn64tab.length := by omega
    simp [tabZ, List.getD, hi2]
  exact ⟨⟨World.block_lt_of_cell? W _ (hc 0 (by omega)), fun j hj => hc j (by omega)⟩,
    tabIs_of_reads (g := 1) (by kernel_rfl) (t := 153) (by kernel_rfl) Tryd.underlying153 Tryd.underlying53 (by kernel_rfl) (by kernel_rfl) r2⟩

/-- A heap in which the variables are laid as listed meets the condition. -/
theorem door_metB (os : Os) (args : Array Value) : laidMetH Tryd.prog laidB ((World.laidAll Tryd.prog os laidB).forCall (fun _ _ => 0) ⟨#[], args, []⟩).memory := by
  rw [MakeChecks.laidMetH_plain _ _ _ (by kernel_rfl)]
  exact laidMet_laidAll _ (by kernel_rfl) (by kernel_rfl)

theorem ownK : ownKnob Tryd.prog.godebug = none := by kernel_rfl
theorem laidOutK : laidOutB Tryd.prog = true := by kernel_rfl
end Go.Proofs.YtccanbjnbmihgaaDoor
/-
  membership: the reference's number: the encoding of a number.
-/
namespace Go.Proofs.YtccanbjnbmihgaaDoor
open Go.RowKit

theorem info_u8p : (Tryd.prog.info? 5).map (fun i => (i.zero, i.size, i.bytes)) = some (some (.int .u8 0), 1, 1) := by kernel_rfl
theorem encHi_nil12 : encHi 0 = [] := by rw [encHi]; rfl

set_option maxRecDepth 100000 in
set_option maxHeartbeats 1600000 in
theorem number12_any (n : Nat) (w : World) (hn : Hid (n < 4294967296)) :
    Calls Tryd.prog 72 #[.int .i64 n] w fun e w' => ∃ v', e = .returned v' ∧ Fresh w' w.heap.size v' (enc n) ∧ Kept (fun _ => False) w w' := by
  obtain ⟨i0, hi, hz0, hz1, hz2⟩ := info_parts info_u8p
  obtain ⟨n2, hn2⟩ : ∃ n2 : Nat, n2 = n / 128 := ⟨_, rfl⟩
  obtain ⟨r0, hr0⟩ : ∃ r0 : Nat, r0 = n % 128 := ⟨_, rfl⟩
  have hE : (n : Int).tmod 128 = (r0 : Int) ∧ (n : Int).tdiv 128 = (n2 : Int) ∧ IntKind.u8.wrap (r0 : Int) = (r0 : Int) ∧ IntKind.i64.wrap (n2 : Int) = (n2 : Int) ∧ IntKind.i64.wrap (r0 : Int) = (r0 : Int) := by
    have h1 := hn.out
    refine ⟨by rw [Int.tmod_eq_emod_of_nonneg (by omega)]; omega, by rw [Int.tdiv_eq_ediv_of_nonneg (by omega)]; omega, IntWalk.u8_in _ (by omega), IntWalk.i64_in _ (by omega), IntWalk.i64_in _ (by omega)⟩
  have HN2 := Lib.hid hn2; clear hn2
  have HR0 := Lib.hid hr0; clear hr0
  obtain ⟨e1, e2, e3, e4, e5⟩ := hE
  go_enter Tryd.func72, Tryd.ntmps72
  go_wp2_with fail
  clear e1 e2 e3 e4 e5
  go_loopw [0, 3] (fun xv vv wr => ∃ (x : Nat) (ys : List Nat), xv = .int .i64 x ∧ Fresh wr w.heap.size vv ys ∧ ys.length ≤ 100 ∧ 0 < ys.length ∧ x ≤ n ∧ Hid (encHi x ++ ys = enc n ∧ ys.length + (encHi x).length ≤ 10) ∧ Kept (fun _ => False) w wr) (fun xv _ _ => (intOf xv).toNat)
  case atStart =>
    have h1 := HN2.out
    have h2 := HR0.out
    refine ⟨n2, [r0], rfl, ⟨owns_lit w w.heap.size _ [r0] 1 rfl (by simp [bv]) (Nat.le_refl _) (by simp [maxLen]), by intro k hk; simp [Value.ownBlock] at hk; omega⟩, by simp, by simp, by omega, ⟨?_, ?_⟩, Kept.alloc _ _ _⟩
    · rw [h1, h2]; rfl
    · have h3 := enc_len (v := n) (by have := hn.out; omega)
      unfold enc at h3
      rw [← h1] at h3
      simp at h3 ⊢
      omega
  case round =>
    obtain ⟨x, ys, rfl, hf, hy, hy0, hxn, hr, hk⟩ := hrel
    obtain ⟨g, cap, hv, hB, hg⟩ := hf.own.form hy0
    subst hv
    by_cases hx : 0 < x
    · obtain ⟨x2, hx2⟩ : ∃ x2 : Nat, x2 = x / 128 := ⟨_, rfl⟩
      obtain ⟨r, hrr⟩ : ∃ r : Nat, r = x % 128 := ⟨_, rfl⟩
      obtain ⟨b, hb⟩ : ∃ b : Nat, b = r + 128 := ⟨_, rfl⟩
      have hE : (x : Int).tmod 128 = (r : Int) ∧ (x : Int).tdiv 128 = (x2 : Int) ∧ (128 : Int) + (r : Int) = (b : Int) ∧ IntKind.u8.wrap (b : Int) = (b : Int) ∧ IntKind.i64.wrap (b : Int) = (b : Int) ∧ IntKind.i64.wrap (x2 : Int) = (x2 : Int) ∧ IntKind.i64.wrap (r : Int) = (r : Int) := by
        have h1 := hn.out
        refine ⟨by rw [Int.tmod_eq_emod_of_nonneg (by omega)]; omega, by rw [Int.tdiv_eq_ediv_of_nonneg (by omega)]; omega, by omega, IntWalk.u8_in _ (by omega), IntWalk.i64_in _ (by omega), IntWalk.i64_in _ (by omega), IntWalk.i64_in _ (by omega)⟩
      have hxx : x2 < x := by omega
      have hxi : (0 : Int) < (x : Int) := by omega
      have hby : (b : Int) < 256 := by omega
      have HX2 := Lib.hid hx2; clear hx2
      have HB := Lib.hid hb; clear hb
      have HRR := Lib.hid hrr; clear hrr
      have hbs : w.heap.size ≤ (wr.alloc (.cells #[.int .u8 b] 5)).heap.size := by have := hk.size; simp; omega
      have hcells : ∀ j u, (bv ys)[j]? = some u → wr.cell? ((⟨g, 0, none⟩ : Addr).add j) = some u := hf.own.cells rfl
      have hnews : ∀ j u, (bv ys)[j]? = some u → (wr.alloc (.cells #[.int .u8 b] 5)).cell? ((⟨g, 0, none⟩ : Addr).add j) = some u := fun j u hu => by
        have hadd : (⟨g, 0, none⟩ : Addr).add j = ⟨g, j, none⟩ := by unfold Addr.add; split <;> simp_all
        have := hcells j u hu
        rw [hadd] at this ⊢
        rw [World.cell?_alloc_past _ _ _ hg]; exact this
      have HCE := Lib.hid hcells; clear hcells
      have HNE := Lib.hid hnews; clear hnews
      obtain ⟨e1, e2, e3, e4, e5, e6, e7⟩ := hE
      go_wp2_with (at_builtin; refine wpList_append_lies _ rfl _ _ _ rfl w.heap.size 5 i0 _ 1 1 Tryd.underlying76 hi hz0 hz1 hz2 rfl (by omega) _ _ _ rfl (owns_lit wr w.heap.size #[.int .u8 b] [b] 1 rfl rfl hk.size (by simp [maxLen])) ⟨g, 0, none⟩ ys.length cap (bv ys) rfl (by simp [bv_length]) HNE.out (bv_oneCell _) hy0 (by simp [maxLen]; omega) (by simp; omega) hbs (wr.heap.size + 1) (by simp) ?_)
      intro g1 cap1 w1 hown1 hgrow hat hgl
      clear hat hgl
      have HO := Lib.hid hown1; clear hown1
      have HG := Lib.hid hgrow; clear hgrow
      go_wp2
      clear e1 e2 e3 e4 e5 e6 e7
      go_roundw
      case rel =>
        have h2 := hr.out
        rw [encHi_pos (v := x) (by omega), ← HX2.out, ← HRR.out, ← HB.out, List.append_assoc, List.singleton_append] at h2
        refine ⟨x2, b :: ys, rfl, ⟨?_, fun k hk => (HO.out.lt k hk).1⟩, ?_, by simp, by omega, ⟨h2.1, ?_⟩, ?_⟩
        · have := HO.out
          rw [← bv_append] at this
          simpa [Nat.add_comm] using this
        · have := h2.2; simp at this ⊢; omega
        · have := h2.2; simp at this ⊢; omega
        · have k1 := Kept.ofGrown (S := fun k => k = wr.heap.size) HG.out (fun k e => by simp [Value.ownBlock] at e; omega)
          refine (hk.trans (Kept.alloc (fun _ => False) _ _) (fun _ _ h => h) (fun _ _ h => h)).trans k1 (fun _ _ h => h) (fun i hi e => ?_)
          have := hk.size; omega
      case measure => simp [intOf]; omega
    · have hx0 : x = 0 := by omega
      subst hx0
      go_wp2_with fail
      go_ret
      refine ⟨_, rfl, ?_, hk⟩
      have he := hr.out.1
      rw [encHi_nil12, List.nil_append] at he
      rw [← he]
      exact hf

end Go.Proofs.YtccanbjnbmihgaaDoor
/-
  As AppR, without crc (never beside AppR).
-/
namespace Go.Proofs.YtccanbjnbmihgaaDoor
open Go.RowKit

theorem Reads.formR8 {w : World} {p : Value} {xs : List Nat} (hp : Reads w p xs) : ∃ a c, p = .slice a xs.length c := by
  rcases hp with ⟨rfl, rfl⟩ | ⟨g, off, cap, rfl, _⟩
  · exact ⟨_, _, rfl⟩
  · exact ⟨_, _, rfl⟩
theorem bv_at8 (xs : List Nat) (i : Nat) (h : i < xs.length) : (bv xs)[i]? = some (.int .u8 (xs.getD i 0 : Nat)) := by simp [bv, List.getD, h]
theorem info_u8c : (Tryd.prog.info? 5).map (fun i => (i.zero, i.size, i.bytes)) = some (some (.int .u8 0), 1, 1) := by kernel_rfl

/-- 'append(v, y...)' where v is a row of the call's own and y reads as bytes: the row is the old one or a new one. -/
theorem append_reads_at {W : World} {B : Nat} {v y : Value} {xs ys : List Nat} (h : Fresh W B v xs) (hy : Reads W y ys) (hl : xs.length + ys.length ≤ 1000000) (hB : B ≤ W.heap.size) :
    ∃ a c w', (Builtin.append_ #[76, 76] 76 #[v, y]).run Tryd.prog W = .ok (.slice a (xs ++ ys).length c) w' ∧ Fresh w' B (.slice a (xs ++ ys).length c) (xs ++ ys) ∧ Kept (blk v) W w' ∧
      ((Value.slice a (xs ++ ys).length c).ownBlock = v.ownBlock ∨ ∀ k, (Value.slice a (xs ++ ys).length c).ownBlock = some k → W.heap.size ≤ k) := by
  obtain ⟨i0, hi, hz0, hz1, hz2⟩ := info_parts info_u8c
  have key : ∃ v' w', (Builtin.append_ #[76, 76] 76 #[v, y]).run Tryd.prog W = .ok v' w' ∧ Fresh w' B v' (xs ++ ys) ∧ Kept (blk v) W w' ∧ (v'.ownBlock = v.ownBlock ∨ ∀ k, v'.ownBlock = some k → W.heap.size ≤ k) := by
    rcases hy with ⟨rfl, rfl⟩ | ⟨g, off, cap, rfl, h1, h2, h3, h4⟩
    · exact ⟨v, W, run_append_owned_none W B 76 76 5 i0 1 Tryd.underlying76 hi v _ _ h.own, by rw [List.append_nil]; exact h, Kept.refl _ _, Or.inl rfl⟩
    · have hcells : ∀ j u, (bv ys)[j]? = some u → W.cell? ((⟨g, off, none⟩ : Addr).add j) = some u := fun j u hu => by
        have hadd : (⟨g, off, none⟩ : Addr).add j = ⟨g, off + j, none⟩ := by unfold Addr.add; split <;> simp_all
        have hj : j < ys.length := by
          have := (List.getElem?_eq_some_iff.1 hu).1
          rwa [bv_length] at this
        rw [hadd, h4 j hj, ← bv_at8 ys j hj]; exact hu
      obtain ⟨v', w', hr, ho, hg, _, hat⟩ := run_append_own_at (P := Tryd.prog) W B 76 76 5 i0 _ 1 1 Tryd.underlying76 hi hz0 hz1 hz2 rfl (by omega) v xs.length (bv xs) h.own ⟨g, off, none⟩ ys.length cap (bv ys)
        (by rw [bv_length, Nat.mul_one]) hcells (bv_oneCell _) (by unfold maxLen; omega) (by omega) hB
      exact ⟨v', w', hr, ⟨by rw [List.length_append, bv_append]; exact ho, fun k hk => (ho.lt k hk).1⟩, Kept.ofGrown (S := blk v) hg fun k e => e, hat.imp id fun e k hk => by rw [e] at hk; injection hk with hk; omega⟩
  obtain ⟨v', w', hr, hf, hk, hat⟩ := key
  obtain ⟨a, c, rfl⟩ := hf.reads.formR8
  exact ⟨a, c, w', hr, hf, hk, hat⟩

/-- 'append(v, y...)' where v is a row of the call's own and y reads as bytes. -/
theorem append_reads_run {W : World} {B : Nat} {v y : Value} {xs ys : List Nat} (h : Fresh W B v xs) (hy : Reads W y ys) (hl : xs.length + ys.length ≤ 1000000) (hB : B ≤ W.heap.size) :
    ∃ a c w', (Builtin.append_ #[76, 76] 76 #[v, y]).run Tryd.prog W = .ok (.slice a (xs ++ ys).length c) w' ∧ Fresh w' B (.slice a (xs ++ ys).length c) (xs ++ ys) ∧ Kept (blk v) W w' := by
  obtain ⟨a, c, w', h1, h2, h3, _⟩ := append_reads_at h hy hl hB
  exact ⟨a, c, w', h1, h2, h3⟩

/-- An append whose run is known, asked for or not (a guard that holds). -/
theorem wpList_append_run {P : Program} {w : World} {ops : Array Oper} {rest : List Oper} {o : Oper} {a : Act} {Q : Exit → Act → World → Prop} (hw : Region.wanted o (yielded ops a.tmps) = true) (s x : Operand) (t t' : TypeId)
    (ho : o.op = .call { callee := .builtin .append, args := #[s, x], argTypes := #[t, t'] }) (v u : Value) (hd : a.eval s = v) (hs : a.eval x = u) {v' : Value} {w' : World}
    (hr : (Builtin.append_ #[t, t'] o.type #[v, u]).run P w = .ok v' w') (h : wpList P ops Q rest (a.put o.dst v') w') : wpList P ops Q (o :: rest) a w := by
  refine wpList_step fun K hK => ?_
  rw [if_pos hw]
  unfold Oper.wp execOp
  simp only [ho, resolve, invoke, builtin, Sem.run_bind, Sem.run_pure, Result.andThen_ok, List.map_toArray, List.map_cons, List.map_nil, hd, hs, hr]
  exact hK _ _ h

end Go.Proofs.YtccanbjnbmihgaaDoor
/-
  membership: the reference's Bytes.
-/
namespace Go.Proofs.YtccanbjnbmihgaaDoor
open Go.RowKit
set_option linter.unusedVariables false
set_option linter.unusedSimpArgs false

/-- A row of bytes of the call's own. -/
structure ObI (w wr : World) (v : Value) (xs : List Nat) : Prop where
  row : Fresh wr w.heap.size v xs
  kept : Kept (fun _ => False) w wr
theorem ObI.on {w a b : World} {v : Value} {xs : List Nat} (h : ObI w a v xs) (hk : Kept (fun _ => False) a b) : ObI w b v xs :=
  ⟨⟨hk.owns h.row.own (fun _ _ h => h), h.row.block⟩, h.kept.then hk⟩
/-- An append of a row to it; a block that the row does not touch stays. -/
theorem ObI.app {w a b : World} {v v1 : Value} {xs ys : List Nat} (h : ObI w a v xs) (hk : Kept (fun _ => False) a b) (hy : Reads b v1 ys) (hl : xs.length + ys.length ≤ 1000000) :
    ∃ a4 c4 w4, (Builtin.append_ #[76, 76] 76 #[v, v1]).run Tryd.prog b = .ok (.slice a4 (xs ++ ys).length c4) w4 ∧ ObI w w4 (.slice a4 (xs ++ ys).length c4) (xs ++ ys) ∧
      ∀ q, q < b.heap.size → v.ownBlock ≠ some q → (∀ o y, b.cell? ⟨q, o, none⟩ = some y → w4.cell? ⟨q, o, none⟩ = some y) ∧ q < w4.heap.size ∧ (Value.slice a4 (xs ++ ys).length c4).ownBlock ≠ some q := by
  have hb := h.on hk
  obtain ⟨a4, c4, w4, r4, f4, k4, hat⟩ := append_reads_at hb.row hy hl hb.kept.size
  refine ⟨a4, c4, w4, r4, ⟨f4, hb.kept.trans k4 (fun _ _ h => h) (fun j hj e => by have := hb.row.block j e; omega)⟩, fun q hq hne => ⟨fun o y hc => (k4.cell (p := ⟨q, o, none⟩) hq (fun e => hne e)).trans hc, Nat.lt_of_lt_of_le hq k4.size, fun e => ?_⟩⟩
  rcases hat with e2 | e2
  · exact hne (e2 ▸ e)
  · have := e2 q e; omega

/-- The numbers of an entry, one after the other. -/
def threeE (x : Ent) (j : Nat) : List Nat := if j = 0 then [] else if j = 1 then enc x.u.toNat else if j = 2 then enc x.u.toNat ++ enc x.r.toNat else encOne x
def numE (x : Ent) (j : Nat) : Int := if j = 0 then x.u else if j = 1 then x.r else x.t
theorem threeE_step (x : Ent) (j : Nat) (h : j < 3) : threeE x (j + 1) = threeE x j ++ enc (numE x j).toNat := by
  rcases (by omega : j = 0 ∨ j = 1 ∨ j = 2) with rfl | rfl | rfl <;> simp [threeE, numE, encOne]
theorem threeE_len (x : Ent) (j : Nat) (h : 0 ≤ x.u ∧ x.u ≤ 256 ∧ 1 ≤ x.r ∧ x.r ≤ 63 ∧ 0 ≤ x.t ∧ x.t ≤ 30000) : (threeE x j).length ≤ 30 := by
  have h1 := enc_len (v := x.u.toNat) (by omega)
  have h2 := enc_len (v := x.r.toNat) (by omega)
  have h3 := encOne_len x h
  unfold threeE
  split
  · simp
  · split
    · omega
    · split
      · simp only [List.length_append]; omega
      · exact h3
theorem numE_fit (x : Ent) (j : Nat) (h : 0 ≤ x.u ∧ x.u ≤ 256 ∧ 1 ≤ x.r ∧ x.r ≤ 63 ∧ 0 ≤ x.t ∧ x.t ≤ 30000) : 0 ≤ numE x j ∧ numE x j ≤ 30000 := by
  unfold numE; split
  · omega
  · split <;> omega

set_option maxRecDepth 100000 in
set_option maxHeartbeats 3200000 in
theorem bytes12_any (w : World) (v : Value) (l : List Ent) (h : Ents w v l) (hfi : ∀ x ∈ l, 0 ≤ x.u ∧ x.u ≤ 256 ∧ 1 ≤ x.r ∧ x.r ≤ 63 ∧ 0 ≤ x.t ∧ x.t ≤ 30000) (hlen : l.length ≤ 20000) :
    Calls Tryd.prog 41 #[v] w fun e w' => ∃ v', e = .returned v' ∧ Fresh w' w.heap.size v' (bytesE l) ∧ Kept (fun _ => False) w w' := by
  obtain ⟨a, c, rfl, hc, hm⟩ := h.form
  unfold maxLen at hm
  have HS := Lib.hid h; have HFi := Lib.hid hfi
  obtain ⟨N, hN⟩ : ∃ N, N = l.length := ⟨_, rfl⟩
  have htk : ∀ k, (encE (l.take k)).length ≤ 30 * N := fun k => by
    have h1 := encE_len (l.take k) (fun x hx => hfi x (List.mem_of_mem_take hx))
    have h2 : (l.take k).length ≤ N := by rw [hN, List.length_take]; omega
    omega
  unfold bytesE
  rw [← hN] at hlen HS hc ⊢
  have he := enc_len (v := N) (by omega)
  have HP := Lib.hid (number12_any N w (by show N < 4294967296; omega))
  obtain ⟨base, hbs⟩ : ∃ base, base = enc N := ⟨_, rfl⟩
  rw [← hbs] at HP he ⊢
  have HN := Lib.hid hN; have HTK := Lib.hid htk
  clear h hfi hN htk hbs
  go_enter Tryd.func41, Tryd.ntmps41
  go_wp2_with fail
  refine HP.out.mono ?_
  rintro e w1 ⟨v1, rfl, hf1, hk1⟩
  have HI1 : Hid (∃ v, v = v1 ∧ ObI w w1 v (base ++ encE (l.take 0))) := ⟨v1, rfl, by rw [List.take_zero]; simp only [encE, List.flatMap_nil, List.append_nil]; exact ⟨hf1, hk1⟩⟩
  clear hf1 hk1 HP
  go_wp2_with fail
  go_loopw [3, 13] (fun vv iv wr => ∃ k : Nat, k ≤ N ∧ iv = .int .i64 k ∧ Hid (∃ v, v = vv ∧ ObI w wr v (base ++ encE (l.take k)))) (fun _ iv _ => N - (intOf iv).toNat)
  case atStart => exact ⟨0, by omega, rfl, HI1⟩
  case round =>
    obtain ⟨k, hk, rfl, hinv⟩ := hrel
    obtain ⟨v, rfl, hin⟩ := hinv.out
    have hel2 := HTK.out k
    have htl : (base ++ encE (l.take k)).length ≤ 600010 := by rw [List.length_append]; omega
    have HIN := Lib.hid hin
    clear hin hinv HI1 hel2
    by_cases hlt : k < N
    · have l1 : (k : Int) < (N : Int) := by omega
      have l0 : (0 : Int) ≤ (k : Int) := by omega
      obtain ⟨gs, os, rfl, hg, hcell⟩ := (HS.out.kept HIN.out.kept (fun _ _ h => h)).at (k := k) (by have := HN.out; omega)
      have het := encE_take l k (by have := HN.out; omega)
      have hfit := HFi.out (l.getD k ent0) (getD_memE l k (by have := HN.out; omega))
      have HET := Lib.hid het
      clear het
      generalize l.getD k ent0 = x at hcell HET hfit
      have HFT := Lib.hid hfit
      obtain ⟨xs, hxs⟩ : ∃ xs, xs = base ++ encE (l.take k) := ⟨_, rfl⟩
      rw [← hxs] at htl HIN
      have HXS := Lib.hid hxs
      clear hxs
      have hA := HIN.out.on (Kept.alloc (fun _ => False) wr (.cells #[.int .i64 x.u, .int .i64 x.r, .int .i64 x.t] 31))
      have hA2 := hA.on (Kept.alloc (fun _ => False) _ (.cells #[.int .i64 x.u, .int .i64 x.r, .int .i64 x.t] 3))
      have HEQ : Hid (xs ++ threeE x 3 = base ++ encE (l.take (k + 1))) := Lib.hid (by rw [HET.out, HXS.out, List.append_assoc]; rfl)
      have hqd : v.ownBlock ≠ some (wr.heap.size + 1) := fun e => by have := (HIN.out.row.own.lt _ e).2; omega
      have HA2 : Hid (∃ v', v' = v ∧ ObI w ((wr.alloc (.cells #[.int .i64 x.u, .int .i64 x.r, .int .i64 x.t] 31)).alloc (.cells #[.int .i64 x.u, .int .i64 x.r, .int .i64 x.t] 3)) v' (xs ++ threeE x 0) ∧ v'.ownBlock ≠ some (wr.heap.size + 1) ∧ wr.heap.size + 1 < ((wr.alloc (.cells #[.int .i64 x.u, .int .i64 x.r, .int .i64 x.t] 31)).alloc (.cells #[.int .i64 x.u, .int .i64 x.r, .int .i64 x.t] 3)).heap.size ∧
          ∀ j, j < 3 → ((wr.alloc (.cells #[.int .i64 x.u, .int .i64 x.r, .int .i64 x.t] 31)).alloc (.cells #[.int .i64 x.u, .int .i64 x.r, .int .i64 x.t] 3)).cell? ⟨wr.heap.size + 1, j, none⟩ = some (.int .i64 (numE x j))) := Lib.hid ⟨v, rfl, by rw [show xs ++ threeE x 0 = xs from List.append_nil _]; exact hA2, hqd, by simp, fun j hj => by
            rcases (by omega : j = 0 ∨ j = 1 ∨ j = 2) with rfl | rfl | rfl <;> (simp only [numE]; go_simp)⟩
      clear hA hA2 hqd HET HXS
      obtain ⟨y, hy⟩ : ∃ y, y = x := ⟨_, rfl⟩
      rw [← hy] at HFT HEQ
      obtain ⟨xu, xr, xt⟩ := x
      obtain ⟨c0, c1, c2⟩ := hcell
      simp only at c0 c1 c2 HA2
      clear hg hfit
      go_wp2_with fail
      generalize ((wr.alloc (.cells #[.int .i64 xu, .int .i64 xr, .int .i64 xt] 31)).alloc (.cells #[.int .i64 xu, .int .i64 xr, .int .i64 xt] 3)) = W3 at *
      rw [← hy] at HA2
      clear hy c0 c1 c2 HIN
      generalize wr.heap.size + 1 = q at *
      generalize wr.heap.size = P at *
      go_loopw [3, 25] (fun vv jv wr => ∃ j : Nat, j ≤ 3 ∧ jv = .int .i64 j ∧ Hid (∃ v', v' = vv ∧ ObI w wr v' (xs ++ threeE y j) ∧ v'.ownBlock ≠ some q ∧ q < wr.heap.size ∧ ∀ j, j < 3 → wr.cell? ⟨q, j, none⟩ = some (.int .i64 (numE y j)))) (fun _ jv _ => 3 - (intOf jv).toNat)
      case atStart => exact ⟨0, by omega, rfl, HA2⟩
      case round =>
        obtain ⟨j, hj, rfl, hinv2⟩ := hrel
        obtain ⟨v2, rfl, hin2, hne2, hq2, hcel⟩ := hinv2.out
        have htl2 := threeE_len y j HFT.out
        have HIN2 := Lib.hid hin2
        have HNE := Lib.hid hne2; have HCE := Lib.hid hcel
        clear hin2 hinv2 HA2 hne2
        by_cases hjt : j < 3
        · have m1 : (j : Int) < 3 := by omega
          have m0 : (0 : Int) ≤ (j : Int) := by omega
          have d0 := HCE.out j hjt
          have hst := threeE_step y j hjt
          have hnf := numE_fit y j HFT.out
          obtain ⟨n, hn⟩ : ∃ n : Nat, numE y j = (n : Int) := ⟨(numE y j).toNat, by omega⟩
          rw [hn] at d0 hst hnf
          have HST : Hid (xs ++ threeE y (j + 1) = (xs ++ threeE y j) ++ enc n) := Lib.hid (by rw [hst, List.append_assoc]; rfl)
          have e4 := enc_len (v := n) (by omega)
          have hN4 : Hid (n < 4294967296) := by show n < 4294967296; omega
          clear hst hn hcel
          go_wp2_with fail
          refine (number12_any n wr hN4).mono ?_
          rintro e w3 ⟨v3, rfl, hf3, hk3⟩
          have hbl : (xs ++ threeE y j).length + (enc n).length ≤ 1000000 := by rw [List.length_append]; omega
          obtain ⟨a4, c4, w4, r4, o4, ob4⟩ := HIN2.out.app hk3 hf3.reads hbl
          have hq3 : q < w3.heap.size := Nat.lt_of_lt_of_le hq2 hk3.size
          obtain ⟨p1, p2, p3⟩ := ob4 q hq3 HNE.out
          have hcel4 : ∀ j, j < 3 → w4.cell? ⟨q, j, none⟩ = some (.int .i64 (numE y j)) := fun i hi => p1 _ _ ((hk3.cell (p := ⟨q, i, none⟩) hq2 (fun h => h)).trans (HCE.out i hi))
          rw [← HST.out] at r4 o4 p3
          have HI4 : Hid (∃ v', v' = .slice a4 (xs ++ threeE y (j + 1)).length c4 ∧ ObI w w4 v' (xs ++ threeE y (j + 1)) ∧ v'.ownBlock ≠ some q ∧ q < w4.heap.size ∧ ∀ j, j < 3 → w4.cell? ⟨q, j, none⟩ = some (.int .i64 (numE y j))) := ⟨_, rfl, o4, p3, p2, hcel4⟩
          have R4 := Lib.hid r4
          clear r4 o4 p1 p2 p3 hcel4 hq3 hq2 hbl ob4 hf3 hk3 d0 HIN2 HNE HCE HST
          generalize (xs ++ threeE y (j + 1)).length = L at R4 HI4
          go_wp2_with (at_builtin; refine wpList_append_run (by rfl) _ _ _ _ rfl _ _ rfl rfl R4.out ?_)
          go_roundw
          case rel => first | exact ⟨j + 1, by omega, by go_num, HI4⟩ | ((repeat apply Exists.intro); exact ⟨⟨j + 1, by omega, by go_num, HI4⟩, rfl⟩)
          case measure => simp [intOf]; omega
        · obtain rfl : j = 3 := by omega
          have HI5 : Hid (∃ v, v = v2 ∧ ObI w wr v (base ++ encE (l.take (k + 1)))) := Lib.hid ⟨v2, rfl, HEQ.out ▸ HIN2.out⟩
          go_wp2_with fail
          go_roundw
          case rel => exact ⟨k + 1, by omega, by go_num, HI5⟩
          case measure => simp [intOf]; omega
    · obtain rfl : k = N := by omega
      have hall : l.take k = l := List.take_of_length_le (by have := HN.out; omega)
      rw [hall] at HIN
      clear hall hlt
      go_wp2_with fail
      go_ret
      exact ⟨_, rfl, HIN.out.row, HIN.out.kept⟩
end Go.Proofs.YtccanbjnbmihgaaDoor
/-
  wire.number: what it returns for bytes that a slice holds.
-/
namespace Go.Proofs.YtccanbjnbmihgaaDoor
open Go.RowKit

set_option maxRecDepth 100000 in
set_option maxHeartbeats 800000 in
theorem number_at (xs : List Nat) (g off cap : Nat) (w : World) (hcap : xs.length ≤ cap) (hm : cap ≤ maxLen) (hby : Hid (∀ b ∈ xs, b < 256))
    (hc : Hid (∀ i, i < xs.length → w.cell? ⟨g, off + i, none⟩ = some (.int .u8 (xs.getD i 0 : Nat)))) (hfirst : Hid (¬ (1 < xs.length ∧ xs.getD 0 0 = 128))) :
    Calls Tryd.prog 102 #[.slice (some ⟨g, off, none⟩) xs.length cap] w fun e w' => e = .returned (.tuple #[.int .u64 (numberS xs).1, .int .i64 (numberS xs).2]) ∧ w = w' := by
  have hl : xs.length ≤ 9223372036854775807 := by unfold maxLen at hm; omega
  clear hm
  have H0 : ¬ 1 < xs.length ∨ ∃ b0 : Nat, 1 < xs.length ∧ w.cell? ⟨g, off, none⟩ = some (.int .u8 b0) ∧ ((b0 : Int) == 128) = false := by
    by_cases h1 : 1 < xs.length
    · have c0 := hc.out 0 (by omega)
      rw [Nat.add_zero] at c0
      have hne : ((xs.getD 0 0 : Nat) : Int) ≠ 128 := by have := hfirst.out; omega
      exact Or.inr ⟨_, h1, c0, by simpa using hne⟩
    · exact Or.inl h1
  rcases H0 with h1 | ⟨b0, h1, c0, hne'⟩
  all_goals
    go_enter Tryd.func102, Tryd.ntmps102
    go_wp2_with fail
    go_loop [4, 18] (fun v i => ∃ k x : Nat, k ≤ xs.length ∧ i = .int .i64 k ∧ v = .int .u64 x ∧ Hid (x < 18446744073709551616) ∧ Hid (numLoop x k (xs.drop k) = numLoop 0 0 xs)) (fun _ i => xs.length - (intOf i).toNat)
    case atStart => exact ⟨0, 0, Nat.zero_le _, rfl, rfl, by show (0 : Nat) < 18446744073709551616; omega, rfl⟩
    case round =>
      obtain ⟨k, x, hk, rfl, rfl, hx, hr⟩ := hrel
      by_cases hlt : k < xs.length
      · have ck := hc.out k hlt
        have hb : Hid (xs.getD k 0 < 256) := hby.out _ (by rw [List.getD_eq_getElem?_getD, List.getElem?_eq_getElem hlt]; exact List.getElem_mem _)
        have hd : Hid (xs.drop k = xs.getD k 0 :: xs.drop (k + 1)) := by
          show _ = _
          rw [List.getD_eq_getElem?_getD, List.getElem?_eq_getElem hlt]; exact List.drop_eq_getElem_cons hlt
        generalize xs.getD k 0 = b at ck hb hd
        have hnum : ¬ (1 < xs.length ∧ xs.getD 0 0 = 128) → numberS xs = numLoop 0 0 xs := fun h => if_neg h
        have HN : Hid (numberS xs = numLoop x k (b :: xs.drop (k + 1))) := by show _ = _; rw [hnum hfirst.out, ← hr.out, hd.out]
        clear hnum
        by_cases hx0 : x / 144115188075855872 = 0
        · have HX := Lib.hid hx0
          obtain ⟨y, hy⟩ : ∃ y : Nat, y = x * 128 + b % 128 := ⟨_, rfl⟩
          have hv := group_in x b y hx0 hb.out hy
          have HY := Lib.hid hy; clear hy
          have ht : ((x : Int) / 144115188075855872 != 0) = false := by simp; omega
          clear hx0
          by_cases hb1 : (b : Int) < 128
          · have HF : Hid (numberS xs = (y, k + 1)) := by
              show _ = _
              rw [HN.out, numLoop, if_neg (by rw [HX.out]; simp), if_pos (by omega), HY.out]
            go_wp2_with fail
            go_ret2
            rw [HF.out]
            exact ⟨rfl, rfl⟩
          · go_wp2_with fail
            go_round
            case rel =>
              refine ⟨k + 1, y, by omega, by go_num, rfl, ?_, ?_⟩
              · have := HX.out; have := HY.out
                show y < 18446744073709551616
                omega
              · show _ = _
                rw [← hr.out, hd.out, numLoop, if_neg (by rw [HX.out]; simp), if_neg (by omega), HY.out]
            case measure => simp [intOf]; omega
        · have ht : ((x : Int) / 144115188075855872 != 0) = true := by simp; omega
          have HF : Hid (numberS xs = (0, 0)) := by
            show _ = _
            rw [HN.out, numLoop, if_pos hx0]
          clear hx0
          go_wp2_with fail
          go_ret2
          rw [HF.out]
          exact ⟨rfl, rfl⟩
      · have HF : Hid (numberS xs = (0, 0)) := by
          show _ = _
          rw [show numberS xs = numLoop 0 0 xs from if_neg hfirst.out, ← hr.out, List.drop_eq_nil_of_le (by omega), numLoop]
        go_wp2_with fail
        go_ret2
        rw [HF.out]
        exact ⟨rfl, rfl⟩

set_option maxRecDepth 100000 in
set_option maxHeartbeats 800000 in
theorem number_nil (w : World) :
    Calls Tryd.prog 102 #[.slice none 0 0] w fun e w' => e = .returned (.tuple #[.int .u64 0, .int .i64 0]) ∧ w = w' := by
  go_enter Tryd.func102, Tryd.ntmps102
  go_wp2_with fail
  go_loop [4, 18] (fun v i => v = .int .u64 0 ∧ i = .int .i64 0) (fun _ _ => 0)
  case atStart => exact ⟨rfl, rfl⟩
  case round =>
    obtain ⟨rfl, rfl⟩ := hrel
    go_wp2_with fail
    go_ret2
    exact ⟨rfl, rfl⟩

set_option maxRecDepth 100000 in
set_option maxHeartbeats 800000 in
theorem number_128 (len g off cap : Nat) (w : World) (h1 : 1 < len) (hl : len ≤ 9223372036854775807) (hc : w.cell? ⟨g, off, none⟩ = some (.int .u8 128)) :
    Calls Tryd.prog 102 #[.slice (some ⟨g, off, none⟩) len cap] w fun e w' => e = .returned (.tuple #[.int .u64 0, .int .i64 0]) ∧ w = w' := by
  go_enter Tryd.func102, Tryd.ntmps102
  go_wp2_with fail
  go_ret2
  exact ⟨rfl, rfl⟩

/-- What 'number' returns for bytes that a value reads as. -/
theorem number_any (v : Value) (xs : List Nat) (w : World) (h : Reads w v xs) (hby : ∀ b ∈ xs, b < 256) :
    Calls Tryd.prog 102 #[v] w fun e w' => e = .returned (.tuple #[.int .u64 (numberS xs).1, .int .i64 (numberS xs).2]) ∧ w = w' := by
  rcases h with ⟨rfl, rfl⟩ | ⟨g, off, cap, rfl, h1, h2, h3, h4⟩
  · exact number_nil w
  · by_cases hf : 1 < xs.length ∧ xs.getD 0 0 = 128
    · have e : numberS xs = (0, 0) := if_pos hf
      rw [e]
      have c0 := h4 0 (by omega)
      rw [hf.2, Nat.add_zero] at c0
      exact number_128 _ g off cap w hf.1 (by unfold maxLen at h2; omega) c0
    · exact number_at xs g off cap w h1 h2 hby h4 hf

end Go.Proofs.YtccanbjnbmihgaaDoor
/-
  wire.Reader: ready, take, Err, Left.
-/
namespace Go.Proofs.YtccanbjnbmihgaaDoor
open Go.RowKit

set_option maxRecDepth 100000 in
theorem ready_yes (w : World) (rb : Nat) (hc : w.cell? ⟨rb, 1, none⟩ = some (.int .i64 0)) :
    Calls Tryd.prog 93 #[.pointer (some ⟨rb, 0, none⟩)] w fun e w' => e = .returned (.bool true) ∧ w = w' := by
  go_enter Tryd.func93, Tryd.ntmps93
  go_wp2_with fail
  go_ret
  exact ⟨rfl, rfl⟩

set_option maxRecDepth 100000 in
theorem ready_no (w : World) (rb : Nat) (err : Int) (he : err ≠ 0) (hc : w.cell? ⟨rb, 1, none⟩ = some (.int .i64 err)) :
    Calls Tryd.prog 93 #[.pointer (some ⟨rb, 0, none⟩)] w fun e w' => e = .returned (.bool false) ∧ w = w' := by
  have hb : (err == 0) = false := by simpa using he
  go_enter Tryd.func93, Tryd.ntmps93
  go_wp2_with fail
  go_ret
  exact ⟨rfl, rfl⟩

set_option maxRecDepth 100000 in
theorem err_any (w : World) (rb : Nat) (err : Int) (hc : w.cell? ⟨rb, 1, none⟩ = some (.int .i64 err)) :
    Calls Tryd.prog 94 #[.pointer (some ⟨rb, 0, none⟩)] w fun e w' => e = .returned (.int .i64 err) ∧ w = w' := by
  go_enter Tryd.func94, Tryd.ntmps94
  go_wp2_with fail
  go_ret
  exact ⟨rfl, rfl⟩

set_option maxRecDepth 100000 in
set_option maxHeartbeats 400000 in
theorem take_at (w : World) (rb g off len cap n : Nat) (hl : len ≤ cap) (hm : cap ≤ 9223372036854775807) (hn : n ≤ len) (hc : w.cell? ⟨rb, 0, none⟩ = some (.slice (some ⟨g, off, none⟩) len cap)) (hf : w.frozen? ⟨rb, 0, none⟩ = false) :
    Calls Tryd.prog 103 #[.pointer (some ⟨rb, 0, none⟩), .int .i64 n] w fun e w' => e = .returned (.slice (some ⟨g, off, none⟩) n cap) ∧
      w' = w.setCell ⟨rb, 0, none⟩ (.slice (some ⟨g, if n = cap then off else off + n, none⟩) (len - n) (cap - n)) := by
  have hn0 : (0 : Int) ≤ (n : Int) := by omega
  have hn1 : (n : Int) ≤ (len : Int) := by omega
  by_cases hnc : n = cap
  · have hnc1 : cap = n := hnc.symm
    have hln : len = n := by omega
    subst hnc1 hln
    rw [if_pos rfl, Nat.sub_self]
    go_enter Tryd.func103, Tryd.ntmps103
    go_wp2_with fail
    go_ret
    exact ⟨rfl, rfl⟩
  · rw [if_neg hnc]
    have hnc' : ¬ cap = n := by omega
    clear hnc
    go_enter Tryd.func103, Tryd.ntmps103
    go_wp2_with fail
    go_ret
    exact ⟨rfl, rfl⟩

set_option maxRecDepth 100000 in
set_option maxHeartbeats 400000 in
theorem take_nil (w : World) (rb : Nat) (hc : w.cell? ⟨rb, 0, none⟩ = some (.slice none 0 0)) (hf : w.frozen? ⟨rb, 0, none⟩ = false) :
    Calls Tryd.prog 103 #[.pointer (some ⟨rb, 0, none⟩), .int .i64 0] w fun e w' => e = .returned (.slice none 0 0) ∧ w' = w.setCell ⟨rb, 0, none⟩ (.slice none 0 0) := by
  go_enter Tryd.func103, Tryd.ntmps103
  go_wp2_with fail
  go_ret
  exact ⟨rfl, rfl⟩

/-- 'take' of n bytes that are there. -/
theorem take_any (w : World) (rb : Nat) (v : Value) (xs : List Nat) (err : Int) (n : Nat) (h : Rd w rb v xs err) (hn : n ≤ xs.length) :
    Calls Tryd.prog 103 #[.pointer (some ⟨rb, 0, none⟩), .int .i64 n] w fun e w' => ∃ p v', e = .returned p ∧ Rd w' rb v' (xs.drop n) err ∧ Reads w' p (xs.take n) ∧
      v'.ownBlock = v.ownBlock ∧ p.ownBlock = v.ownBlock ∧ Kept (fun k => k = rb) w w' := by
  rcases h.reads with ⟨rfl, rfl⟩ | ⟨g, off, cap, rfl, h1, h2, h3, h4⟩
  · have hn0 : n = 0 := by simpa using hn
    subst hn0
    refine (take_nil w rb h.cell0 h.free0).mono ?_
    rintro e w' ⟨rfl, rfl⟩
    exact ⟨_, _, rfl, h.setLeft (Or.inl ⟨rfl, rfl⟩) (by simp [Value.ownBlock]), Or.inl ⟨rfl, rfl⟩, rfl, rfl, Kept.setCell _ _ _ _ rfl⟩
  · refine (take_at w rb g off xs.length cap n h1 (by unfold maxLen at h2; omega) hn h.cell0 h.free0).mono ?_
    rintro e w' ⟨rfl, rfl⟩
    have hk := Kept.setCell (fun k => k = rb) w ⟨rb, 0, none⟩ (.slice (some ⟨g, if n = cap then off else off + n, none⟩) (xs.length - n) (cap - n)) rfl
    have hap : g ≠ rb := fun e => h.apart (by simp [Value.ownBlock, e])
    have hr : Reads w (.slice (some ⟨g, if n = cap then off else off + n, none⟩) (xs.length - n) (cap - n)) (xs.drop n) := by
      by_cases hnc : n = cap
      · rw [if_pos hnc]
        refine Or.inr ⟨g, off, cap - n, by simp, by simp; omega, by omega, h3, fun i hi => ?_⟩
        simp at hi; omega
      · rw [if_neg hnc]
        exact Reads.drop n h.reads hn
    exact ⟨_, _, rfl, h.setLeft hr (by simpa [Value.ownBlock] using hap), (Reads.take n h.reads hn).kept hk (by simpa [Value.ownBlock] using hap), rfl, rfl, hk⟩

end Go.Proofs.YtccanbjnbmihgaaDoor
/-
  wire.Reader: bounded, Uint, End.
-/
namespace Go.Proofs.YtccanbjnbmihgaaDoor
open Go.RowKit

/-- What 'bounded' gives: the number, the bytes that are left, the error. -/
def boundedS (xs : List Nat) (most : Nat) (above err : Int) : Nat × List Nat × Int :=
  if (numberS xs).2 = 0 then (0, xs, 6) else if most < (numberS xs).1 then (0, xs, above) else ((numberS xs).1, xs.drop (numberS xs).2, err)

set_option maxRecDepth 100000 in
set_option maxHeartbeats 800000 in
theorem bounded_any (w : World) (rb : Nat) (v : Value) (xs : List Nat) (err above : Int) (most : Nat) (h : Rd w rb v xs err) (hby : ∀ b ∈ xs, b < 256) :
    Calls Tryd.prog 92 #[.pointer (some ⟨rb, 0, none⟩), .int .u64 most, .int .i64 above] w fun e w' =>
      e = .returned (.int .u64 (boundedS xs most above err).1) ∧ ∃ v', Rd w' rb v' (boundedS xs most above err).2.1 (boundedS xs most above err).2.2 ∧ v'.ownBlock = v.ownBlock ∧ Kept (fun k => k = rb) w w' := by
  have hcall := number_any v xs w h.reads hby
  have hle := numberS_le xs
  have hB : boundedS xs most above err = if (numberS xs).2 = 0 then (0, xs, 6) else if most < (numberS xs).1 then (0, xs, above) else ((numberS xs).1, xs.drop (numberS xs).2, err) := rfl
  generalize numberS xs = q at hcall hle hB
  obtain ⟨x, n⟩ := q
  simp only at hcall hle hB
  have HC := Lib.hid hcall; clear hcall
  have c0 := h.cell0; have c1 := h.cell1; have f1 := h.free1; have hlt := h.lt
  have HH := Lib.hid h; clear h
  have HY := Lib.hid hby; clear hby
  by_cases hn : n = 0
  · subst hn
    rw [if_pos rfl] at hB
    rw [hB]
    clear hB
    go_enter Tryd.func92, Tryd.ntmps92
    go_wp2_with fail
    refine HC.out.mono ?_
    rintro e w' ⟨rfl, rfl⟩
    go_wp2_with fail
    go_ret
    exact ⟨rfl, v, HH.out.setErr 6, rfl, Kept.setCell _ _ _ _ rfl⟩
  · rw [if_neg hn] at hB
    have hn' : ((n : Int) == 0) = false := by simp; omega
    have HN := Lib.hid hn; clear hn
    by_cases hx : most < x
    · rw [if_pos hx] at hB
      rw [hB]
      clear hB
      go_enter Tryd.func92, Tryd.ntmps92
      go_wp2_with fail
      refine HC.out.mono ?_
      rintro e w' ⟨rfl, rfl⟩
      go_wp2_with fail
      go_ret
      exact ⟨rfl, v, HH.out.setErr above, rfl, Kept.setCell _ _ _ _ rfl⟩
    · rw [if_neg hx] at hB
      rw [hB]
      clear hB
      go_enter Tryd.func92, Tryd.ntmps92
      go_wp2_with fail
      refine HC.out.mono ?_
      rintro e w' ⟨rfl, rfl⟩
      go_wp2_with fail
      refine (take_any w rb v xs err n HH.out hle).mono ?_
      rintro e w1 ⟨p, v', rfl, hr, hp, hv, hpv, hk⟩
      have HV := Lib.hid hv; clear hv
      have HPV := Lib.hid hpv; clear hpv
      go_wp2_with fail
      go_ret
      exact ⟨rfl, v', hr, HV.out, hk⟩

/-- What 'Uint' gives. -/
def uintS (xs : List Nat) (most : Nat) (err : Int) : Nat × List Nat × Int := if err = 0 then boundedS xs most 2 0 else (0, xs, err)

set_option maxRecDepth 100000 in
set_option maxHeartbeats 800000 in
theorem end_any (w : World) (rb : Nat) (v : Value) (xs : List Nat) (err : Int) (h : Rd w rb v xs err) :
    Calls Tryd.prog 76 #[.pointer (some ⟨rb, 0, none⟩)] w fun e w' => e = .returned (.int .i64 (if err = 0 ∧ 0 < xs.length then 6 else err)) ∧ w = w' := by
  have c1 := h.cell1
  obtain ⟨a, c, c0⟩ : ∃ a c, w.cell? ⟨rb, 0, none⟩ = some (.slice a xs.length c) := by
    rcases h.reads with ⟨rfl, rfl⟩ | ⟨g, off, cap, rfl, _⟩
    · exact ⟨none, 0, h.cell0⟩
    · exact ⟨_, _, h.cell0⟩
  clear h
  generalize xs.length = len at c0
  by_cases he : err = 0
  · subst he
    by_cases hl : 0 < len
    · rw [if_pos ⟨rfl, hl⟩]
      go_enter Tryd.func76, Tryd.ntmps76
      go_wp2_with fail
      refine (ready_yes w rb c1).mono ?_
      rintro e w' ⟨rfl, rfl⟩
      go_wp2_with fail
      go_ret
      exact ⟨rfl, rfl⟩
    · rw [if_neg (fun h => hl h.2)]
      go_enter Tryd.func76, Tryd.ntmps76
      go_wp2_with fail
      refine (ready_yes w rb c1).mono ?_
      rintro e w' ⟨rfl, rfl⟩
      go_wp2_with fail
      refine (err_any w rb 0 c1).mono ?_
      rintro e w' ⟨rfl, rfl⟩
      go_wp2_with fail
      go_ret
      exact ⟨rfl, rfl⟩
  · rw [if_neg (fun h => he h.1)]
    go_enter Tryd.func76, Tryd.ntmps76
    go_wp2_with fail
    refine (ready_no w rb err he c1).mono ?_
    rintro e w' ⟨rfl, rfl⟩
    go_wp2_with fail
    refine (err_any w rb err c1).mono ?_
    rintro e w' ⟨rfl, rfl⟩
    go_wp2_with fail
    go_ret
    exact ⟨rfl, rfl⟩

end Go.Proofs.YtccanbjnbmihgaaDoor
/-
  wire.Reader: Fail, readyFor, piece.
-/
namespace Go.Proofs.YtccanbjnbmihgaaDoor
open Go.RowKit

set_option maxRecDepth 100000 in
theorem fail_set (w : World) (rb : Nat) (e : Int) (hc : w.cell? ⟨rb, 1, none⟩ = some (.int .i64 0)) (hf : w.frozen? ⟨rb, 1, none⟩ = false) :
    Calls Tryd.prog 101 #[.pointer (some ⟨rb, 0, none⟩), .int .i64 e] w fun e' w' => e' = .returned (.tuple #[]) ∧ w' = w.setCell ⟨rb, 1, none⟩ (.int .i64 e) := by
  go_enter Tryd.func101, Tryd.ntmps101
  go_wp2_with fail
  refine (ready_yes w rb hc).mono ?_
  rintro e w' ⟨rfl, rfl⟩
  go_wp2
  go_end0
  exact ⟨rfl, rfl⟩

set_option maxRecDepth 100000 in
theorem fail_stays (w : World) (rb : Nat) (e err : Int) (he : err ≠ 0) (hc : w.cell? ⟨rb, 1, none⟩ = some (.int .i64 err)) :
    Calls Tryd.prog 101 #[.pointer (some ⟨rb, 0, none⟩), .int .i64 e] w fun e' w' => e' = .returned (.tuple #[]) ∧ w = w' := by
  go_enter Tryd.func101, Tryd.ntmps101
  go_wp2_with fail
  refine (ready_no w rb err he hc).mono ?_
  rintro e w' ⟨rfl, rfl⟩
  go_wp2
  go_end0
  exact ⟨rfl, rfl⟩

/-- The error that 'readyFor' leaves. -/
def forErr (n err : Int) : Int := if n < 0 ∧ err = 0 then 1 else err

set_option maxRecDepth 100000 in
set_option maxHeartbeats 400000 in
theorem readyFor_any (w : World) (rb : Nat) (v : Value) (xs : List Nat) (err n : Int) (h : Rd w rb v xs err) :
    Calls Tryd.prog 91 #[.pointer (some ⟨rb, 0, none⟩), .int .i64 n] w fun e w' =>
      e = .returned (.bool (decide (forErr n err = 0))) ∧ Rd w' rb v xs (forErr n err) ∧ Kept (fun k => k = rb) w w' := by
  have HH := Lib.hid h; clear h
  by_cases hn : n < 0
  · by_cases he : err = 0
    · subst he
      rw [show forErr n 0 = 1 from if_pos ⟨hn, rfl⟩, show decide ((1 : Int) = 0) = false from rfl]
      have HR := HH.out.setErr 1
      go_enter Tryd.func91, Tryd.ntmps91
      go_wp2_with fail
      refine (fail_set w rb 1 HH.out.cell1 HH.out.free1).mono ?_
      rintro e w' ⟨rfl, rfl⟩
      go_wp2_with fail
      refine (ready_no _ rb 1 (by decide) HR.cell1).mono ?_
      rintro e w' ⟨rfl, rfl⟩
      go_wp2_with fail
      go_ret
      exact ⟨rfl, HR, Kept.setCell _ _ _ _ rfl⟩
    · rw [show forErr n err = err from if_neg (fun h => he h.2), show decide (err = 0) = false by simpa using he]
      go_enter Tryd.func91, Tryd.ntmps91
      go_wp2_with fail
      refine (fail_stays w rb 1 err he HH.out.cell1).mono ?_
      rintro e w' ⟨rfl, rfl⟩
      go_wp2_with fail
      refine (ready_no w rb err he HH.out.cell1).mono ?_
      rintro e w' ⟨rfl, rfl⟩
      go_wp2_with fail
      go_ret
      exact ⟨rfl, HH.out, Kept.refl _ _⟩
  · rw [show forErr n err = err from if_neg (fun h => hn h.1)]
    by_cases he : err = 0
    · subst he
      go_enter Tryd.func91, Tryd.ntmps91
      go_wp2_with fail
      refine (ready_yes w rb HH.out.cell1).mono ?_
      rintro e w' ⟨rfl, rfl⟩
      go_wp2_with fail
      go_ret
      exact ⟨rfl, HH.out, Kept.refl _ _⟩
    · rw [show decide (err = 0) = false by simpa using he]
      go_enter Tryd.func91, Tryd.ntmps91
      go_wp2_with fail
      refine (ready_no w rb err he HH.out.cell1).mono ?_
      rintro e w' ⟨rfl, rfl⟩
      go_wp2_with fail
      go_ret
      exact ⟨rfl, HH.out, Kept.refl _ _⟩

/-- What 'piece' gives: the bytes, the bytes that are left, the error. -/
def pieceS (xs : List Nat) (most err : Int) : List Nat × List Nat × Int :=
  if err ≠ 0 then ([], xs, err) else if most < 0 then ([], xs, 1) else if (numberS xs).2 = 0 then ([], xs, 6)
  else if most < ((numberS xs).1 : Int) then ([], xs, 3) else if xs.length - (numberS xs).2 < (numberS xs).1 then ([], xs, 6)
  else ((xs.drop (numberS xs).2).take (numberS xs).1, xs.drop ((numberS xs).2 + (numberS xs).1), 0)

end Go.Proofs.YtccanbjnbmihgaaDoor
/-
  membership: bytes.Equal; Count and Number of the program's reader.
-/
namespace Go.Proofs.YtccanbjnbmihgaaDoor
open Go.RowKit
set_option linter.unusedVariables false

theorem bequal_any (w : World) (v u : Value) (xs ys : List Nat) (hv : Reads w v xs) (hu : Reads w u ys) (hx : ∀ x ∈ xs, x < 256) (hy : ∀ y ∈ ys, y < 256) :
    Calls Tryd.prog 77 #[v, u] w fun e w' => e = .returned (.bool (decide (xs = ys))) ∧ w = w' := by
  have c1 := reads_str hv
  have c2 := reads_str hu
  have hq : decide (xs = ys) = ((strOfNums (xs.map fun n : Nat => (n : Int))).toList == (strOfNums (ys.map fun n : Nat => (n : Int))).toList) := by
    rw [Bool.eq_iff_iff, beq_iff_eq, decide_eq_true_iff, ← str_inj hx hy, ByteArray.toList_eq, ByteArray.toList_eq]
    refine ⟨fun h => by rw [h], fun h => ?_⟩
    exact ByteArray.ext (Array.toList_inj.1 h)
  rw [hq]
  generalize strOfNums (xs.map fun n : Nat => (n : Int)) = s at *
  generalize strOfNums (ys.map fun n : Nat => (n : Int)) = t at *
  obtain ⟨a, c, rfl⟩ : ∃ a c, v = .slice a xs.length c := hv.formR8
  obtain ⟨b, d, rfl⟩ : ∃ a c, u = .slice a ys.length c := hu.formR8
  clear hv hu hx hy hq
  generalize xs.length = n at *
  generalize ys.length = m at *
  go_enter Tryd.func77, Tryd.ntmps77
  go_wp2_with fail
  go_ret
  exact ⟨rfl, rfl⟩

theorem bounded_most12 (xs : List Nat) (most : Nat) (a e : Int) : (boundedS xs most a e).1 ≤ most := by
  unfold boundedS
  split
  · simp
  · split <;> simp <;> omega
theorem bounded_byte12 {xs : List Nat} (h : ∀ b ∈ xs, b < 256) (most : Nat) (a e : Int) : (∀ b ∈ (boundedS xs most a e).2.1, b < 256) ∧ (boundedS xs most a e).2.1.length ≤ xs.length := by
  unfold boundedS
  split
  · exact ⟨h, Nat.le_refl _⟩
  · split
    · exact ⟨h, Nat.le_refl _⟩
    · exact ⟨fun b hb => h b (List.mem_of_mem_drop hb), by simp⟩
/-- What 'Count' gives. -/
def cntS12 (xs : List Nat) (most : Nat) : Nat × List Nat × Int := boundedS xs most 3 0

set_option maxRecDepth 100000 in
set_option maxHeartbeats 800000 in
theorem rcount12_any (w : World) (rb : Nat) (v : Value) (xs : List Nat) (m : Nat) (hmost : m < 9223372036854775808) (h : Rd w rb v xs 0) (hby : ∀ b ∈ xs, b < 256) :
    Calls Tryd.prog 74 #[.pointer (some ⟨rb, 0, none⟩), .int .i64 m] w fun e w' => e = .returned (.int .i64 (cntS12 xs m).1) ∧
      ∃ v', Rd w' rb v' (cntS12 xs m).2.1 (cntS12 xs m).2.2 ∧ v'.ownBlock = v.ownBlock ∧ Kept (fun k => k = rb) w w' := by
  unfold cntS12
  have hrf := readyFor_any w rb v xs 0 m h
  rw [show forErr (m : Int) 0 = 0 from if_neg (by omega), show decide ((0 : Int) = 0) = true from rfl] at hrf
  have HB := Lib.hid (fun (W : World) (hr : Rd W rb v xs 0) => bounded_any W rb v xs 0 3 m hr hby)
  have hle := bounded_most12 xs m 3 0
  have HRF := Lib.hid hrf
  clear hrf h hby
  generalize boundedS xs m 3 0 = q at HB hle ⊢
  obtain ⟨n, left, er⟩ := q
  simp only at HB hle ⊢
  have hE : IntKind.i64.wrap (n : Int) = (n : Int) ∧ IntKind.u64.wrap (m : Int) = (m : Int) := ⟨IntWalk.i64_in _ (by omega), IntWalk.u64_in _ (by omega)⟩
  have HLE := Lib.hid hle
  clear hle hmost
  obtain ⟨hw, hw2⟩ := hE
  go_enter Tryd.func74, Tryd.ntmps74
  go_wp2_with fail
  refine HRF.out.mono ?_
  rintro e w1 ⟨rfl, hr1, hk1⟩
  have HR1 := Lib.hid hr1; have HK1 := Lib.hid hk1
  clear hr1 hk1
  go_wp2_with fail
  refine (HB.out w1 HR1.out).mono ?_
  rintro e w2 ⟨rfl, v', hr, hv, hk⟩
  have HV := Lib.hid hv; have HR := Lib.hid hr
  have HK := Lib.hid (HK1.out.trans hk (T := fun k => k = rb) (fun _ _ h => h) (fun _ _ h => h))
  clear hv hr hk
  go_wp2_with fail
  go_ret
  exact ⟨rfl, v', HR.out, HV.out, HK.out⟩
set_option maxRecDepth 100000 in
set_option maxHeartbeats 800000 in
theorem rnum12_nat (w : World) (rb : Nat) (v : Value) (xs : List Nat) (m : Nat) (hmost : m < 9223372036854775808) (h : Rd w rb v xs 0) (hby : ∀ b ∈ xs, b < 256) :
    Calls Tryd.prog 75 #[.pointer (some ⟨rb, 0, none⟩), .int .i64 m] w fun e w' => e = .returned (.int .i64 (boundedS xs m 2 0).1) ∧
      ∃ v', Rd w' rb v' (boundedS xs m 2 0).2.1 (boundedS xs m 2 0).2.2 ∧ v'.ownBlock = v.ownBlock ∧ Kept (fun k => k = rb) w w' := by
  have hrf := readyFor_any w rb v xs 0 m h
  rw [show forErr (m : Int) 0 = 0 from if_neg (by omega), show decide ((0 : Int) = 0) = true from rfl] at hrf
  have HB := Lib.hid (fun (W : World) (hr : Rd W rb v xs 0) => bounded_any W rb v xs 0 2 m hr hby)
  have hle := bounded_most12 xs m 2 0
  have HRF := Lib.hid hrf
  clear hrf h hby
  generalize boundedS xs m 2 0 = q at HB hle ⊢
  obtain ⟨n, left, er⟩ := q
  simp only at HB hle ⊢
  have hE : IntKind.i64.wrap (n : Int) = (n : Int) ∧ IntKind.u64.wrap (m : Int) = (m : Int) := ⟨IntWalk.i64_in _ (by omega), IntWalk.u64_in _ (by omega)⟩
  have HLE := Lib.hid hle
  clear hle hmost
  obtain ⟨hw, hw2⟩ := hE
  go_enter Tryd.func75, Tryd.ntmps75
  go_wp2_with fail
  refine HRF.out.mono ?_
  rintro e w1 ⟨rfl, hr1, hk1⟩
  have HR1 := Lib.hid hr1; have HK1 := Lib.hid hk1
  clear hr1 hk1
  go_wp2_with fail
  refine (HB.out w1 HR1.out).mono ?_
  rintro e w2 ⟨rfl, v', hr, hv, hk⟩
  have HV := Lib.hid hv; have HR := Lib.hid hr
  have HK := Lib.hid (HK1.out.trans hk (T := fun k => k = rb) (fun _ _ h => h) (fun _ _ h => h))
  clear hv hr hk
  go_wp2_with fail
  go_ret
  exact ⟨rfl, v', HR.out, HV.out, HK.out⟩
set_option maxRecDepth 100000 in
set_option maxHeartbeats 800000 in
theorem rnum12_no (w : World) (rb : Nat) (v : Value) (xs : List Nat) (err most : Int) (hf : forErr most err ≠ 0) (h : Rd w rb v xs err) :
    Calls Tryd.prog 75 #[.pointer (some ⟨rb, 0, none⟩), .int .i64 most] w fun e w' => e = .returned (.int .i64 0) ∧ Rd w' rb v xs (forErr most err) ∧ Kept (fun k => k = rb) w w' := by
  have hrf := readyFor_any w rb v xs err most h
  rw [show decide (forErr most err = 0) = false by simpa using hf] at hrf
  have HRF := Lib.hid hrf
  clear hrf h hf
  go_enter Tryd.func75, Tryd.ntmps75
  go_wp2_with fail
  refine HRF.out.mono ?_
  rintro e w1 ⟨rfl, hr1, hk1⟩
  have HR1 := Lib.hid hr1; have HK1 := Lib.hid hk1
  clear hr1 hk1
  go_wp2_with fail
  go_ret
  exact ⟨rfl, HR1.out, HK1.out⟩

theorem rnum12_any (w : World) (rb : Nat) (v : Value) (xs : List Nat) (m : Nat) (err : Int) (hmost : m < 9223372036854775808) (h : Rd w rb v xs err) (hby : ∀ b ∈ xs, b < 256) :
    Calls Tryd.prog 75 #[.pointer (some ⟨rb, 0, none⟩), .int .i64 m] w fun e w' => e = .returned (.int .i64 (uintS xs m err).1) ∧
      ∃ v', Rd w' rb v' (uintS xs m err).2.1 (uintS xs m err).2.2 ∧ v'.ownBlock = v.ownBlock ∧ Kept (fun k => k = rb) w w' := by
  by_cases he : err = 0
  · subst he
    rw [show uintS xs m 0 = boundedS xs m 2 0 from if_pos rfl]
    exact rnum12_nat w rb v xs m hmost h hby
  · rw [show uintS xs m err = (0, xs, err) from if_neg he]
    have hf : forErr (m : Int) err = err := if_neg fun h => he h.2
    refine (rnum12_no w rb v xs err m (by rw [hf]; exact he) h).mono ?_
    rintro e w' ⟨rfl, hr, hk⟩
    rw [hf] at hr
    exact ⟨rfl, v, hr, rfl, hk⟩
theorem uint_most12 (xs : List Nat) (most : Nat) (e : Int) : (uintS xs most e).1 ≤ most := by
  unfold uintS
  split
  · exact bounded_most12 _ _ _ _
  · simp
theorem uint_byte12 {xs : List Nat} (h : ∀ b ∈ xs, b < 256) (most : Nat) (e : Int) : (∀ b ∈ (uintS xs most e).2.1, b < 256) ∧ (uintS xs most e).2.1.length ≤ xs.length := by
  unfold uintS
  split
  · exact bounded_byte12 h _ _ _
  · exact ⟨h, Nat.le_refl _⟩
/-- A number that is positive was read: it took a byte. -/
theorem uint_took12 {xs : List Nat} {most : Nat} {e : Int} (h : 1 ≤ (uintS xs most e).1) : e = 0 ∧ (uintS xs most e).2.1.length + 1 ≤ xs.length := by
  unfold uintS at h ⊢
  split at h
  · rename_i he
    rw [if_pos he]
    refine ⟨he, ?_⟩
    unfold boundedS at h ⊢
    split at h
    · simp at h
    · rename_i h1
      rw [if_neg h1]
      split at h
      · simp at h
      · rename_i h2
        rw [if_neg h2]
        have h3 : 0 < xs.length := by
          cases xs with
          | nil => simp [numberS, numLoop] at h
          | cons b t => simp
        simp only [List.length_drop]; omega
  · simp at h
theorem uint_back12 (n m : Nat) (rest : List Nat) (h : n ≤ m) (hm : m ≤ 100000) : uintS (enc n ++ rest) m 0 = (n, rest, 0) := by
  have h1 := numberS_enc (v := n) rest (by omega)
  have h2 := enc_pos n
  rw [uintS, if_pos rfl, boundedS, h1]
  simp only
  rw [if_neg (by omega), if_neg (by omega), List.drop_left]
theorem cnt_back12 (n m : Nat) (rest : List Nat) (h : n ≤ m) (hm : m ≤ 100000) : cntS12 (enc n ++ rest) m = (n, rest, 0) := by
  have h1 := numberS_enc (v := n) rest (by omega)
  have h2 := enc_pos n
  rw [cntS12, boundedS, h1]
  simp only
  rw [if_neg (by omega), if_neg (by omega), List.drop_left]
end Go.Proofs.YtccanbjnbmihgaaDoor
/-
  A book in memory: put, as in MbQ, and where the new row lies.
-/
namespace Go.Proofs.YtccanbjnbmihgaaDoor
open Go.RowKit Go.Shelf
set_option linter.unusedVariables false
set_option linter.unusedSimpArgs false

set_option maxRecDepth 100000 in
set_option maxHeartbeats 4000000 in
theorem putw_any (w : World) (bb M u : Nat) (hv : Nat → Value) (H : Nat → List Ent) (r t : Int) (h : BookAt w bb M hv H) (hM : M ≤ 100000) (hu : 1 ≤ u) (hu2 : u ≤ 256) :
    Calls Tryd.prog 53 #[.pointer (some ⟨bb, 0, none⟩), .agg #[.int .i64 (u : Int), .int .i64 r, .int .i64 t]] w fun e w' =>
      ∃ v', e = .returned (.tuple #[]) ∧ BookAt w' bb (M + 1) (upd hv u v') (upd H u (putR (H u) ⟨u, r, t⟩)) ∧ Kept (fun k => k = bb) w w' ∧ ∀ k, v'.ownBlock = some k → w.heap.size ≤ k := by
  obtain ⟨a, c, hf, h1, h2⟩ := (h.row u (by omega)).form
  have hc := h.cell u (by omega)
  rw [hf] at hc
  have hl := h.len u (by omega)
  obtain ⟨P, hP⟩ : ∃ P, P = w.heap.size := ⟨_, rfl⟩
  obtain ⟨W0, hW0⟩ : ∃ W0, W0 = w.alloc (.cells #[.int .i64 (u : Int), .int .i64 r, .int .i64 t] 87) := ⟨_, rfl⟩
  have K0 : Kept (fun _ => False) w W0 := by rw [hW0]; exact Kept.alloc _ _ _
  obtain ⟨p0, p1, p2⟩ := box3c w u r t 87
  rw [← hW0, ← hP] at p0 p1 p2
  have hc0 : W0.cell? ⟨bb, u, none⟩ = some (.slice a (H u).length c) := (K0.cell (World.block_lt_of_cell? w _ hc) (fun h => h)).trans hc
  obtain ⟨l, hlH⟩ : ∃ l, l = H u := ⟨_, rfl⟩
  rw [← hlH] at hc hc0 hl hf h1
  have hrow : Ents W0 (.slice a l.length c) l := by
    have := (h.row u (by omega)).kept K0 (fun _ _ h => h)
    rwa [hf, ← hlH] at this
  have HC : Hid (∀ n, Calls Tryd.prog 50 #[.slice a l.length c] (W0.drewN n) fun e w' => ∃ v', e = .returned v' ∧ OwnE 87 (W0.drewN n).heap.size w' v' l ∧ Kept (fun _ => False) (W0.drewN n) w') :=
    Lib.hid fun n => eclone_any _ l (W0.drewN n) (hrow.kept ((Kept.refl (fun _ => False) W0).drewN n) (fun _ _ h => h)) (by omega)
  have HA : Hid (Asc l) := Lib.hid (by rw [hlH]; exact h.asc u (by omega))
  have HH := Lib.hid h; have HP := Lib.hid hP; have HW := Lib.hid hW0; have HL := Lib.hid hlH; have HF := Lib.hid hf
  clear h hc hf hlH hrow h2 hP hW0
  go_enter Tryd.func53, Tryd.ntmps53
  go_wp2_with fail
  rw [← HW.out, ← HP.out]
  have hI1 : (u : Int) < 257 := by omega
  have hI0 : (0 : Int) ≤ (u : Int) := by omega
  have hI2 : u < 257 := by omega
  go_still_tail 7, (by kernel_rfl)
  have hq0 : W0.drew.cell? ⟨bb, u, none⟩ = some (.slice a l.length c) := hc0
  have q0 : W0.drew.cell? ⟨P, 0, none⟩ = some (.int .i64 (u : Int)) := p0
  have q1 : W0.drew.cell? ⟨P, 1, none⟩ = some (.int .i64 r) := p1
  have q2 : W0.drew.cell? ⟨P, 2, none⟩ = some (.int .i64 t) := p2
  change wpList _ _ _ _ _ W0.drew
  have HC1 : Hid (Calls Tryd.prog 50 #[.slice a l.length c] W0.drew fun e w' => ∃ v', e = .returned v' ∧ OwnE 87 W0.drew.heap.size w' v' l ∧ Kept (fun _ => False) W0.drew w') := Lib.hid (HC.out 1)
  have KD : Hid (Kept (fun _ => False) w W0.drew ∧ W0.drew.heap.size = P + 1 ∧ ∃ T, W0.drew.heap[P]? = some (.cells (entC ⟨u, r, t⟩).toArray T (0, 0))) := Lib.hid ⟨K0.drew, by rw [HW.out, HP.out]; simp, ⟨87, by rw [HW.out, HP.out]; exact heap_alloc_new w _⟩⟩
  clear HC K0 hc0 p0 p1 p2
  generalize W0.drew = WD at *
  go_wp2_with (first
    | (go_at_call 50; refine HC1.out.mono ?_; rintro e W1 ⟨v1, rfl, o1, k1⟩
       have r1 : W1.cell? ⟨P, 1, none⟩ = some (.int .i64 r) := (k1.cell (World.block_lt_of_cell? WD _ q1) (fun h => h)).trans q1
       obtain ⟨a1, c1, rfl, hc11, hc12⟩ := o1.form
       have O1 := Lib.hid o1; have K1 := Lib.hid k1; have R0 := Lib.hid q0; have R2 := Lib.hid q2
       clear o1 k1 q0 q1 q2 hq0)
    | (go_at_call 47; refine (place_any W1 _ l r O1.out.ents HA.out (by omega)).mono ?_; rintro e W2 ⟨i, rfl, hp, k2⟩
       have s0 : W2.cell? ⟨P, 0, none⟩ = some (.int .i64 (u : Int)) := (k2.cell (World.block_lt_of_cell? W1 _ ((K1.out.cell (World.block_lt_of_cell? WD _ R0.out) (fun h => h)).trans R0.out)) (fun h => h)).trans ((K1.out.cell (World.block_lt_of_cell? WD _ R0.out) (fun h => h)).trans R0.out)
       have s1 : W2.cell? ⟨P, 1, none⟩ = some (.int .i64 r) := (k2.cell (World.block_lt_of_cell? W1 _ r1) (fun h => h)).trans r1
       have s2 : W2.cell? ⟨P, 2, none⟩ = some (.int .i64 t) := (k2.cell (World.block_lt_of_cell? W1 _ ((K1.out.cell (World.block_lt_of_cell? WD _ R2.out) (fun h => h)).trans R2.out)) (fun h => h)).trans ((K1.out.cell (World.block_lt_of_cell? WD _ R2.out) (fun h => h)).trans R2.out)
       have HPl := Lib.hid hp; have K2 := Lib.hid k2; have O2 := Lib.hid (O1.out.kept k2 (fun _ _ h => h)); have HFo := Lib.hid (rfl : foundAt l r i = foundAt l r i)
       obtain ⟨fd, hfd⟩ : ∃ fd, fd = foundAt l r i := ⟨_, rfl⟩
       rw [← hfd]
       have HFd := Lib.hid hfd
       clear hp k2 r1 hfd
       cases fd
       all_goals (try (
         have hif := found_lt HFd.out
         obtain ⟨g1, y0, y1, y2, rfl, hg1, hg1s, z0, z1, z2, f0, f1, f2⟩ := OwnE.slot O2.out rfl hif)))
    | (go_at_call 84; refine (insert_any _ _ l ⟨u, r, t⟩ WD.heap.size W2.heap.size i (World.ownsRow.alloc O2.out _) (by omega) HPl.out.1 (by have h1 := K1.out.size; have h2 := K2.out.size; simp; omega) (fun k hk e => by have := (World.ownsRow.lt O2.out k hk).2; omega) ⟨_, heap_alloc_new W2 _⟩).mono ?_; rintro e W3 ⟨v3, rfl, o3, k3⟩
       have hlen3 : (l.take i ++ [(⟨u, r, t⟩ : Ent)] ++ l.drop i).length = l.length + 1 := by
         have := HPl.out.1
         simp only [List.length_append, List.length_take, List.length_drop, List.length_singleton]; omega
       obtain ⟨L3, hL3⟩ : ∃ L3, L3 = l.take i ++ [(⟨u, r, t⟩ : Ent)] ++ l.drop i := ⟨_, rfl⟩
       rw [← hL3] at o3 hlen3
       obtain ⟨a3, c3, rfl, hc31, hc32⟩ := o3.form
       obtain ⟨m3, hm3⟩ : ∃ m3, L3.length = m3 := ⟨_, rfl⟩
       rw [hm3] at o3 hlen3 hc31 ⊢
       have hi3 : i < m3 := by have := HPl.out.1; omega
       obtain ⟨g1, y0, y1, y2, rfl, hg1, hg1s, z0, z1, z2, f0, f1, f2⟩ := OwnE.slot o3 hm3 hi3
       have kq : Kept (fun k => WD.heap.size ≤ k) W2 W3 := (Kept.alloc (fun k => WD.heap.size ≤ k) W2 _).trans k3 (fun _ _ h => h) (fun k _ hk => (World.ownsRow.lt O2.out k hk).1)
       have hPD : ¬ WD.heap.size ≤ P := by have := KD.out.2.1; omega
       replace s0 := (kq.cell (World.block_lt_of_cell? W2 _ s0) hPD).trans s0
       replace s1 := (kq.cell (World.block_lt_of_cell? W2 _ s1) hPD).trans s1
       replace s2 := (kq.cell (World.block_lt_of_cell? W2 _ s2) hPD).trans s2
       have O3 := Lib.hid o3; have K3 := Lib.hid kq; have HL3 := Lib.hid hL3; have HM3 := Lib.hid hm3
       clear o3 k3 hlen3 kq hL3 hm3))
  · have hpl := HPl.out
    have hsn := set_new (x := ⟨u, r, t⟩) HA.out hpl HFd.out
    have K03 : Kept (fun _ => False) w W3 := ((KD.out.1.then K1.out).then K2.out).trans K3.out (fun _ _ h => h) (fun k hk h => by have := KD.out.2.1; have := HP.out; omega)
    have hds := KD.out.2.1
    have hPw := HP.out
    have ofin := OwnE.put O3.out HM3.out.symm hi3 (x := ⟨u, r, t⟩)
    rw [HL3.out] at ofin
    have K04 : Kept (fun _ => False) w (W3.setCells g1 (i * 3) (entC ⟨u, r, t⟩)) := K03.trans (setCells_kept g1 _ _ _) (fun _ _ h => h) (fun k hk h => by omega)
    have hfin := book_fin HH.out K04 ofin.ents (fun k hk => by have : g1 = k := Option.some.inj hk; omega) (by rw [hsn.1]; exact asc_putR HA.out) (by have := hsn.2; omega) (by rw [hsn.1]; exact user_putR (by rw [HL.out]; exact HH.out.user u hI2) rfl) hI2
    have hbw : bb < w.heap.size := World.block_lt_of_cell? w _ (HH.out.cell u hI2)
    have b5 : (W3.setCells g1 (i * 3) (entC ⟨u, r, t⟩)).cell? ⟨bb, u, none⟩ = some (hv u) := (K04.cell (p := ⟨bb, u, none⟩) hbw (fun h => h)).trans (HH.out.cell u hI2)
    have f5 : (W3.setCells g1 (i * 3) (entC ⟨u, r, t⟩)).frozen? ⟨bb, u, none⟩ = false := (K04.frozen (p := ⟨bb, u, none⟩) hbw (fun h => h)).trans (HH.out.free u)
    have s5 : (W3.setCells g1 (i * 3) (entC ⟨u, r, t⟩)).cell? ⟨P, 0, none⟩ = some (.int .i64 (u : Int)) := ((setCells_kept g1 (entC ⟨u, r, t⟩) (i * 3) W3).cell (p := ⟨P, 0, none⟩) (World.block_lt_of_cell? W3 _ s0) (fun h => by have h : P = g1 := h; omega)).trans s0
    rw [hsn.1] at hfin
    have HE := Lib.hid hfin
    have HG1 : Hid (w.heap.size ≤ g1) := Lib.hid (by omega)
    rw [show ((W3.setCell ⟨g1, i * 3, none⟩ (.int .i64 (u : Int))).setCell ⟨g1, i * 3 + 1, none⟩ (.int .i64 r)).setCell ⟨g1, i * 3 + 2, none⟩ (.int .i64 t) = W3.setCells g1 (i * 3) (entC ⟨u, r, t⟩) from rfl]
    clear hfin hsn hpl K03 K04 ofin s0 s1 s2 z0 z1 z2 f0 f1 f2 hds hPw hPD
    generalize W3.setCells g1 (i * 3) (entC ⟨u, r, t⟩) = W4 at *
    go_still_tail 7, (by kernel_rfl)
    replace b5 : W4.drew.cell? ⟨bb, u, none⟩ = some (hv u) := b5
    replace f5 : W4.drew.frozen? ⟨bb, u, none⟩ = false := f5
    change wpList _ _ _ _ _ W4.drew
    generalize W4.drew = W5 at *
    go_wp2_with fail
    go_end0
    have hE := HE.out
    rw [show putR l ⟨(u : Int), r, t⟩ = putR (H u) ⟨(u : Int), r, t⟩ by rw [HL.out]] at hE
    exact ⟨_, rfl, hE.1, hE.2, fun k hk => by have e : g1 = k := Option.some.inj hk; have := HG1.out; omega⟩
  · have hpl := HPl.out
    have hsn := set_found (x := ⟨u, r, t⟩) HA.out hpl HFd.out
    have K02 : Kept (fun _ => False) w W2 := ((KD.out.1.then K1.out).then K2.out)
    have hds := KD.out.2.1
    have hPw := HP.out
    have ofin := OwnE.put O2.out rfl hif (x := ⟨u, r, t⟩)
    have K04 : Kept (fun _ => False) w (W2.setCells g1 (i * 3) (entC ⟨u, r, t⟩)) := K02.trans (setCells_kept g1 _ _ _) (fun _ _ h => h) (fun k hk h => by omega)
    have hfin := book_fin HH.out K04 ofin.ents (fun k hk => by have : g1 = k := Option.some.inj hk; omega) (by rw [hsn.1]; exact asc_putR HA.out) (by have := hsn.2; omega) (by rw [hsn.1]; exact user_putR (by rw [HL.out]; exact HH.out.user u hI2) rfl) hI2
    have hbw : bb < w.heap.size := World.block_lt_of_cell? w _ (HH.out.cell u hI2)
    have b5 : (W2.setCells g1 (i * 3) (entC ⟨u, r, t⟩)).cell? ⟨bb, u, none⟩ = some (hv u) := (K04.cell (p := ⟨bb, u, none⟩) hbw (fun h => h)).trans (HH.out.cell u hI2)
    have f5 : (W2.setCells g1 (i * 3) (entC ⟨u, r, t⟩)).frozen? ⟨bb, u, none⟩ = false := (K04.frozen (p := ⟨bb, u, none⟩) hbw (fun h => h)).trans (HH.out.free u)
    have s5 : (W2.setCells g1 (i * 3) (entC ⟨u, r, t⟩)).cell? ⟨P, 0, none⟩ = some (.int .i64 (u : Int)) := ((setCells_kept g1 (entC ⟨u, r, t⟩) (i * 3) W2).cell (p := ⟨P, 0, none⟩) (World.block_lt_of_cell? W2 _ s0) (fun h => by have h : P = g1 := h; omega)).trans s0
    rw [hsn.1] at hfin
    have HE := Lib.hid hfin
    have HG1 : Hid (w.heap.size ≤ g1) := Lib.hid (by omega)
    rw [show ((W2.setCell ⟨g1, i * 3, none⟩ (.int .i64 (u : Int))).setCell ⟨g1, i * 3 + 1, none⟩ (.int .i64 r)).setCell ⟨g1, i * 3 + 2, none⟩ (.int .i64 t) = W2.setCells g1 (i * 3) (entC ⟨u, r, t⟩) from rfl]
    clear hfin hsn hpl K02 K04 ofin s0 s1 s2 z0 z1 z2 f0 f1 f2 hds hPw
    generalize W2.setCells g1 (i * 3) (entC ⟨u, r, t⟩) = W4 at *
    go_still_tail 7, (by kernel_rfl)
    replace b5 : W4.drew.cell? ⟨bb, u, none⟩ = some (hv u) := b5
    replace f5 : W4.drew.frozen? ⟨bb, u, none⟩ = false := f5
    change wpList _ _ _ _ _ W4.drew
    generalize W4.drew = W5 at *
    go_wp2_with fail
    go_end0
    have hE := HE.out
    rw [show putR l ⟨(u : Int), r, t⟩ = putR (H u) ⟨(u : Int), r, t⟩ by rw [HL.out]] at hE
    exact ⟨_, rfl, hE.1, hE.2, fun k hk => by have e : g1 = k := Option.some.inj hk; have := HG1.out; omega⟩
end Go.Proofs.YtccanbjnbmihgaaDoor
/-
  membership: Read, plain words.
-/
namespace Go.Proofs.YtccanbjnbmihgaaDoor
open Go.RowKit
set_option linter.unusedVariables false
set_option linter.unusedSimpArgs false

def GoodL (L : List Ent) : Prop := (∀ x ∈ L, 1 ≤ x.u ∧ x.u ≤ 256 ∧ 1 ≤ x.r ∧ x.r ≤ 63 ∧ 0 ≤ x.t ∧ x.t ≤ 30000) ∧ L.Pairwise (fun a b => bef a b = true) ∧ L.length ≤ 16128
/-- What k rounds of Read have made, if the bytes are those of a list. -/
def Gd (xs : List Nat) (n k : Nat) (H : Nat → List Ent) (ys : List Nat) (err : Int) : Prop :=
  ∀ L, GoodL L → xs = bytesE L → n = L.length ∧ err = 0 ∧ ys = encE (L.drop k) ∧ allE H = L.take k

theorem asg_take {L : List Ent} (h : L.Pairwise (fun a b => bef a b = true)) (k : Nat) (hk : k < L.length) : asgE (L.take k) (L.getD k ent0) = L.take (k + 1) := by
  have hp : ∀ y ∈ L.take k, bef y (L.getD k ent0) = true := by
    intro y hy
    have e := List.take_append_drop k L
    rw [← e, List.pairwise_append] at h
    refine h.2.2 y hy _ ?_
    rw [List.drop_eq_getElem_cons hk, show L.getD k ent0 = L[k] by simp [List.getD, hk]]
    exact List.mem_cons_self
  rw [take_getDE L k hk]
  generalize L.getD k ent0 = x at *
  unfold asgE
  have e1 : (L.take k).filter (notE x.u x.r) = L.take k := List.filter_eq_self.2 fun y hy => by
    have := hp y hy
    unfold bef at this
    unfold notE
    simp only [decide_eq_true_eq] at this ⊢
    omega
  rw [e1]
  have e2 := insE_skip x [] (L.take k) (fun y hy => by
    have := hp y hy
    unfold bef at this ⊢
    simp only [decide_eq_true_eq] at this
    simp only [decide_eq_false_iff_not]
    omega)
  rw [List.append_nil] at e2
  rw [e2]
  rfl

theorem gd_start (xs : List Nat) : Gd xs (cntS12 xs 16128).1 0 (fun _ => []) (cntS12 xs 16128).2.1 (cntS12 xs 16128).2.2 := by
  intro L hL hx
  have e : cntS12 xs 16128 = (L.length, encE L, 0) := by rw [hx]; exact cnt_back12 L.length 16128 (encE L) hL.2.2 (by omega)
  rw [e]
  refine ⟨rfl, rfl, by rw [List.drop_zero], ?_⟩
  simp [allE]

theorem encE_drop (L : List Ent) (k : Nat) (hk : k < L.length) : encE (L.drop k) = encOne (L.getD k ent0) ++ encE (L.drop (k + 1)) := by
  rw [List.drop_eq_getElem_cons hk, show L.getD k ent0 = L[k] by simp [List.getD, hk]]
  rfl

theorem gd_round {xs : List Nat} {n k : Nat} {H : Nat → List Ent} {ys : List Nat} {err : Int} (g : Gd xs n k H ys err) (hk : k < n) {a b c : Nat} {ys1 ys2 ys3 : List Nat} {e1 e2 e3 : Int}
    (ha : uintS ys 256 err = (a, ys1, e1)) (hb : uintS ys1 63 e1 = (b, ys2, e2)) (hc : uintS ys2 30000 e2 = (c, ys3, e3)) (L : List Ent) (hL : GoodL L) (hx : xs = bytesE L) :
    L.getD k ent0 = ⟨a, b, c⟩ ∧ 1 ≤ a ∧ 1 ≤ b ∧ n = L.length ∧ e3 = 0 ∧ ys3 = encE (L.drop (k + 1)) := by
  obtain ⟨h1, rfl, h3, h4⟩ := g L hL hx
  have hkl : k < L.length := by omega
  have hf := hL.1 _ (getD_memE L k hkl)
  rw [encE_drop L k hkl] at h3
  generalize L.getD k ent0 = x at *
  obtain ⟨xu, xr, xt⟩ := x
  simp only at hf
  obtain ⟨nu, rfl⟩ : ∃ m : Nat, xu = (m : Int) := ⟨xu.toNat, by omega⟩
  obtain ⟨nr, rfl⟩ : ∃ m : Nat, xr = (m : Int) := ⟨xr.toNat, by omega⟩
  obtain ⟨nt, rfl⟩ : ∃ m : Nat, xt = (m : Int) := ⟨xt.toNat, by omega⟩
  have h5 : ys = enc nu ++ (enc nr ++ (enc nt ++ encE (L.drop (k + 1)))) := by
    rw [h3]; simp only [encOne, Int.toNat_natCast, List.append_assoc]
  rw [h5, uint_back12 nu 256 _ (by omega) (by omega)] at ha
  obtain ⟨rfl, rfl, rfl⟩ : nu = a ∧ enc nr ++ (enc nt ++ encE (L.drop (k + 1))) = ys1 ∧ (0 : Int) = e1 := by simpa using ha
  rw [uint_back12 nr 63 _ (by omega) (by omega)] at hb
  obtain ⟨rfl, rfl, rfl⟩ : nr = b ∧ enc nt ++ encE (L.drop (k + 1)) = ys2 ∧ (0 : Int) = e2 := by simpa using hb
  rw [uint_back12 nt 30000 _ (by omega) (by omega)] at hc
  obtain ⟨rfl, rfl, rfl⟩ : nt = c ∧ encE (L.drop (k + 1)) = ys3 ∧ (0 : Int) = e3 := by simpa using hc
  exact ⟨rfl, by omega, by omega, h1, rfl, rfl⟩

theorem gd_step {xs : List Nat} {n k : Nat} {H : Nat → List Ent} {ys : List Nat} {err : Int} (g : Gd xs n k H ys err) (hH : Rows2 H) (hk : k < n) {a b c : Nat} {ys1 ys2 ys3 : List Nat} {e1 e2 e3 : Int}
    (ha : uintS ys 256 err = (a, ys1, e1)) (hb : uintS ys1 63 e1 = (b, ys2, e2)) (hc : uintS ys2 30000 e2 = (c, ys3, e3)) (h2 : a ≤ 256) :
    Gd xs n (k + 1) (upd H a (putR (H a) ⟨a, b, c⟩)) ys3 e3 := by
  intro L hL hx
  obtain ⟨h3, h4, h5, h6, h7, h8⟩ := gd_round g hk ha hb hc L hL hx
  refine ⟨h6, h7, h8, ?_⟩
  rw [allE_put hH ⟨a, b, c⟩ a (by omega) rfl, (g L hL hx).2.2.2, ← h3]
  exact asg_take hL.2.1 k (by omega)
theorem gd_bad {xs : List Nat} {n k : Nat} {H : Nat → List Ent} {ys : List Nat} {err : Int} (g : Gd xs n k H ys err) (hk : k < n) {a b c : Nat} {ys1 ys2 ys3 : List Nat} {e1 e2 e3 : Int}
    (ha : uintS ys 256 err = (a, ys1, e1)) (hb : uintS ys1 63 e1 = (b, ys2, e2)) (hc : uintS ys2 30000 e2 = (c, ys3, e3)) (h2 : ¬ (1 ≤ a ∧ 1 ≤ b)) (L : List Ent) (hL : GoodL L) : xs ≠ bytesE L := fun hx => by
  obtain ⟨h3, h4, h5, _⟩ := gd_round g hk ha hb hc L hL hx
  exact h2 ⟨h4, h5⟩
theorem gd_end {xs : List Nat} {n : Nat} {H : Nat → List Ent} {ys : List Nat} {err : Int} (g : Gd xs n n H ys err) (L : List Ent) (hL : GoodL L) (hx : xs = bytesE L) : err = 0 ∧ ys = [] ∧ allE H = L := by
  obtain ⟨h1, h2, h3, h4⟩ := g L hL hx
  rw [h1, List.drop_length] at h3
  rw [h1, List.take_length] at h4
  exact ⟨h2, h3, h4⟩
end Go.Proofs.YtccanbjnbmihgaaDoor
/-
  membership: Read.
-/
namespace Go.Proofs.YtccanbjnbmihgaaDoor
open Go.RowKit
set_option linter.unusedVariables false
set_option linter.unusedSimpArgs false

/-- What holds ahead of round k of Read. -/
structure MrI (w wr : World) (rb bb : Nat) (xs : List Nat) (n k : Nat) (u : Value) (hv : Nat → Value) (H : Nat → List Ent) (ys : List Nat) (err : Int) : Prop where
  rd : Rd wr rb u ys err
  uge : ∀ j, u.ownBlock = some j → w.heap.size ≤ j ∧ j ≠ bb
  byt : ∀ b ∈ ys, b < 256
  len : ys.length + k ≤ xs.length
  bk : BookAt wr bb k hv H
  rows : Rows2 H
  rge : w.heap.size ≤ rb
  bge : w.heap.size ≤ bb
  ne : rb ≠ bb
  apart : ∀ i j, i < 257 → (hv i).ownBlock = some j → j ≠ rb
  kept : Kept (fun _ => False) w wr
  gd : Gd xs n k H ys err

/-- A number read by the reader: what holds of the rest. -/
theorem MrI.num {w wr : World} {rb bb : Nat} {xs : List Nat} {n k : Nat} {u : Value} {hv : Nat → Value} {H : Nat → List Ent} {ys : List Nat} {err : Int} (h : MrI w wr rb bb xs n k u hv H ys err) {w1 : World} {u1 : Value} {ys1 : List Nat} {e1 : Int}
    (hr : Rd w1 rb u1 ys1 e1) (ho : u1.ownBlock = u.ownBlock) (hk : Kept (fun k => k = rb) wr w1) :
    BookAt w1 bb k hv H ∧ (∀ j, u1.ownBlock = some j → w.heap.size ≤ j ∧ j ≠ bb) ∧ Kept (fun _ => False) w w1 :=
  ⟨h.bk.kept hk (fun e => h.ne e.symm) (fun i j hi hj e => h.apart i j hi hj e), fun j hj => h.uge j (ho ▸ hj), h.kept.trans hk (fun _ _ h => h) (fun i hi e => by have := h.rge; omega)⟩

set_option maxRecDepth 100000 in
set_option maxHeartbeats 3200000 in
theorem mread_any (w : World) (p : Value) (xs : List Nat) (h : Reads w p xs) (hby : ∀ b ∈ xs, b < 256) (hl : xs.length ≤ 900) :
    Calls Tryd.prog 42 #[p] w fun e w' => Kept (fun _ => False) w w' ∧
      ((e = .returned (.tuple #[.pointer none, .int .i64 6]) ∧ ∀ L, GoodL L → xs ≠ bytesE L) ∨
       (∃ v H, e = .returned (.tuple #[v, .int .i64 0]) ∧ BookV w' v 1000 H ∧ xs = bytesE (allE H) ∧ ∀ L, GoodL L → xs = bytesE L → allE H = L)) := by
  have HNR := Lib.hid (newReader_any w p xs h (by omega))
  have HP := Lib.hid h
  have HC := Lib.hid (fun (W : World) (rb : Nat) (u : Value) (hr : Rd W rb u xs 0) => rcount12_any W rb u xs 16128 (by omega) hr hby)
  have HG := Lib.hid (gd_start xs)
  have hcb := bounded_byte12 hby 16128 3 0
  have hcm := bounded_most12 xs 16128 3 0
  change (∀ b ∈ (cntS12 xs 16128).2.1, b < 256) ∧ (cntS12 xs 16128).2.1.length ≤ xs.length at hcb
  change (cntS12 xs 16128).1 ≤ 16128 at hcm
  have HBY := Lib.hid hby
  obtain ⟨pa, pc, rfl⟩ : ∃ a c, p = .slice a xs.length c := h.formR8
  obtain ⟨pl, hpl⟩ : ∃ pl, pl = xs.length := ⟨_, rfl⟩
  rw [← hpl] at HNR HP ⊢
  have HPL := Lib.hid hpl
  clear h hby hpl
  generalize cntS12 xs 16128 = q at HC HG hcb hcm
  obtain ⟨n, ys0, er0⟩ := q
  simp only at HC HG hcb hcm
  have HCB := Lib.hid hcb
  clear hcb
  go_enter Tryd.func42, Tryd.ntmps42
  go_wp2_with fail
  refine HNR.out.mono ?_
  rintro e w1 ⟨rb, v1, rfl, hrd1, hge1, hv1, hk1⟩
  have HR1 := Lib.hid hrd1; have HV1 := Lib.hid hv1; have HK1 := Lib.hid hk1
  have hrl1 := hrd1.lt
  clear hrd1 hv1 hk1 HNR
  go_wp2_with fail
  refine (mnew_at w1).mono ?_
  rintro e w2 ⟨rfl, hb2, hk2⟩
  have HR2 := Lib.hid (HR1.out.kept hk2 (fun h => h) (fun _ _ h => h))
  have HB2 := Lib.hid hb2
  have HK2 := Lib.hid (HK1.out.then hk2)
  have HV2 : Hid (∀ j, v1.ownBlock = some j → w.heap.size ≤ j ∧ j ≠ w1.heap.size) := Lib.hid fun j hj => ⟨HV1.out j hj, fun e => by have := HR1.out.reads.lt j hj; omega⟩
  have hbge : w.heap.size ≤ w1.heap.size := HK1.out.size
  have hne : rb ≠ w1.heap.size := by omega
  clear hb2 hk2 HR1 HV1 HK1
  generalize w1.heap.size = bb at *
  go_wp2_with fail
  refine (HC.out w2 rb v1 HR2.out).mono ?_
  rintro e w3 ⟨rfl, v3, hrd3, hv3, hk3⟩
  have HI3 : Hid (∃ u hv H ys err, MrI w w3 rb bb xs n 0 u hv H ys err) := Lib.hid ⟨v3, _, _, ys0, er0, hrd3, fun j hj => HV2.out j (hv3 ▸ hj), HCB.out.1, by have := HCB.out.2; omega, HB2.out.kept hk3 (fun e => hne e.symm) (fun _ _ _ hj e => by cases hj), Rows2.nil, hge1, hbge, hne, (fun _ _ _ hj => by cases hj), HK2.out.trans hk3 (fun _ _ h => h) (fun i hi e => by omega), HG.out⟩
  clear hrd3 hv3 hk3 HR2 HB2 HK2 HV2 HC HG HCB hrl1
  go_wp2_with fail
  go_loopw [12] (fun iv wr => ∃ k : Nat, k ≤ n ∧ iv = .int .i64 k ∧ Hid (∃ u hv H ys err, MrI w wr rb bb xs n k u hv H ys err)) (fun iv _ => n - (intOf iv).toNat)
  case atStart => exact ⟨0, by omega, rfl, HI3⟩
  case round =>
    obtain ⟨k, hk, rfl, hinv⟩ := hrel
    obtain ⟨u, hv, H, ys, err, hin⟩ := hinv.out
    have HIN := Lib.hid hin
    clear hin hinv HI3
    by_cases hlt : k < n
    · have l1 : (k : Int) < (n : Int) := by omega
      have l0 : (0 : Int) ≤ (k : Int) := by omega
      obtain ⟨⟨a, ys1, e1⟩, ha⟩ : ∃ q, uintS ys 256 err = q := ⟨_, rfl⟩
      obtain ⟨⟨b, ys2, e2⟩, hb⟩ : ∃ q, uintS ys1 63 e1 = q := ⟨_, rfl⟩
      obtain ⟨⟨c, ys3, e3⟩, hc⟩ : ∃ q, uintS ys2 30000 e2 = q := ⟨_, rfl⟩
      have hby1 := uint_byte12 HIN.out.byt 256 err
      rw [ha] at hby1
      have hby2 := uint_byte12 hby1.1 63 e1
      rw [hb] at hby2
      have hby3 := uint_byte12 hby2.1 30000 e2
      rw [hc] at hby3
      have hm1 := uint_most12 ys 256 err
      have hm2 := uint_most12 ys1 63 e1
      have hm3 := uint_most12 ys2 30000 e2
      rw [ha] at hm1; rw [hb] at hm2; rw [hc] at hm3
      simp only at hby1 hby2 hby3 hm1 hm2 hm3
      have HY1 := Lib.hid hby1; have HY2 := Lib.hid hby2; have HY3 := Lib.hid hby3
      have C1 := rnum12_any wr rb u ys 256 err (by omega) HIN.out.rd HIN.out.byt
      rw [ha] at C1
      have HC1 := Lib.hid C1
      have HC2 : Hid (∀ W v, Rd W rb v ys1 e1 → Calls Tryd.prog 75 #[.pointer (some ⟨rb, 0, none⟩), .int .i64 63] W fun e w' => e = .returned (.int .i64 b) ∧ ∃ v', Rd w' rb v' ys2 e2 ∧ v'.ownBlock = v.ownBlock ∧ Kept (fun k => k = rb) W w') := Lib.hid fun W v hr => by
        have := rnum12_any W rb v ys1 63 e1 (by omega) hr hby1.1
        rw [hb] at this; exact this
      have HC3 : Hid (∀ W v, Rd W rb v ys2 e2 → Calls Tryd.prog 75 #[.pointer (some ⟨rb, 0, none⟩), .int .i64 30000] W fun e w' => e = .returned (.int .i64 c) ∧ ∃ v', Rd w' rb v' ys3 e3 ∧ v'.ownBlock = v.ownBlock ∧ Kept (fun k => k = rb) W w') := Lib.hid fun W v hr => by
        have := rnum12_any W rb v ys2 30000 e2 (by omega) hr hby2.1
        rw [hc] at this; exact this
      have HGD := Lib.hid HIN.out.gd
      have HLN := Lib.hid HIN.out.len
      have HA := Lib.hid ha; have HB := Lib.hid hb; have HCc := Lib.hid hc
      clear C1 hby1 hby2 hby3 ha hb hc
      go_wp2_with fail
      refine HC1.out.mono ?_
      rintro e w4 ⟨rfl, z4, hr4, ho4, hk4⟩
      have R4 := Lib.hid hr4; have O4 := Lib.hid ho4; have K4 := Lib.hid hk4
      clear hr4 ho4 hk4 HC1
      go_wp2_with fail
      refine (HC2.out w4 z4 R4.out).mono ?_
      rintro e w5 ⟨rfl, z5, hr5, ho5, hk5⟩
      have R5 := Lib.hid hr5; have O5 := Lib.hid (ho5.trans O4.out); have K5 := Lib.hid (K4.out.trans hk5 (T := fun k => k = rb) (fun _ _ h => h) (fun _ _ h => h))
      clear hr5 ho5 hk5 HC2 R4 O4 K4
      go_wp2_with fail
      refine (HC3.out w5 z5 R5.out).mono ?_
      rintro e w6 ⟨rfl, z6, hr6, ho6, hk6⟩
      have R6 := Lib.hid (hr6.kept (Kept.alloc (fun _ => False) w6 (.cells #[.int .i64 (a : Int), .int .i64 (b : Int), .int .i64 (c : Int)] 87)) (fun h => h) (fun _ _ h => h))
      have hnum := HIN.out.num hr6 (ho6.trans O5.out) (K5.out.trans hk6 (T := fun k => k = rb) (fun _ _ h => h) (fun _ _ h => h))
      have HUG := Lib.hid hnum.2.1
      have HBK := Lib.hid (hnum.1.kept (Kept.alloc (fun _ => False) w6 (.cells #[.int .i64 (a : Int), .int .i64 (b : Int), .int .i64 (c : Int)] 87)) (fun h => h) (fun _ _ _ _ h => h))
      have HK6 := Lib.hid (hnum.2.2.then (Kept.alloc (fun _ => False) w6 (.cells #[.int .i64 (a : Int), .int .i64 (b : Int), .int .i64 (c : Int)] 87)))
      have Hrb : Hid (rb < w6.heap.size) := Lib.hid hr6.lt
      clear hr6 ho6 hk6 HC3 R5 O5 K5 hnum
      by_cases hok : 1 ≤ a ∧ 1 ≤ b
      · have i1 : ¬ (a : Int) < 1 := by omega
        have i2 : ¬ (b : Int) < 1 := by omega
        have hkM : k ≤ 100000 := by omega
        go_wp2_with fail
        refine (putw_any _ bb k a hv H b c HBK.out hkM hok.1 hm1).mono ?_
        rintro e w8 ⟨v8, rfl, hb8, hk8, hf8⟩
        have htk := uint_took12 (xs := ys) (most := 256) (e := err) (by rw [HA.out]; exact hok.1)
        rw [HA.out] at htk
        have hl8 : ys3.length + (k + 1) ≤ xs.length := by
          have h1 := HLN.out; have h2 := HY2.out.2; have h3 := HY3.out.2; have h4 := htk.2
          simp only at h4
          omega
        have hgd8 := gd_step HGD.out HIN.out.rows hlt HA.out HB.out HCc.out hm1
        have HI8 : Hid (∃ u hv H ys err, MrI w w8 rb bb xs n (k + 1) u hv H ys err) := Lib.hid ⟨z6, _, _, ys3, e3, R6.out.kept hk8 HIN.out.ne (fun j hj e => (HUG.out j hj).2 e), HUG.out, HY3.out.1, hl8, hb8,
          HIN.out.rows.put (by omega) hok.1 rfl ⟨by show (1 : Int) ≤ (b : Int); omega, by show (b : Int) ≤ 63; omega⟩ ⟨by show (0 : Int) ≤ (c : Int); omega, by show (c : Int) ≤ 30000; omega⟩, HIN.out.rge, HIN.out.bge, HIN.out.ne,
          (fun i j hi hj => by
            unfold upd at hj
            split at hj
            · have h1 := hf8 j hj
              have h2 := R6.out.lt
              have h3 := HIN.out.rd.lt
              have h4 := HK6.out.size
              intro e
              have h5 : rb < w6.heap.size := by
                have := Hrb.out; exact this
              have h6 : w6.heap.size < (w6.alloc (.cells #[.int .i64 (a : Int), .int .i64 (b : Int), .int .i64 (c : Int)] 87)).heap.size := by simp
              omega
            · exact HIN.out.apart i j hi hj), HK6.out.trans hk8 (fun _ _ h => h) (fun i hi e => by have := HIN.out.bge; omega), hgd8⟩
        clear hb8 hk8 hf8 htk hl8 hgd8 HIN HGD HLN HA HB HCc HUG HBK HK6 R6 HY1 HY2 HY3
        go_wp2_with fail
        go_roundw
        case rel => first | exact ⟨k + 1, by omega, by go_num, HI8⟩ | ((repeat apply Exists.intro); exact ⟨⟨k + 1, by omega, by go_num, HI8⟩, rfl⟩)
        case measure => simp [intOf]; omega
      · have hbad := fun L hL => gd_bad HGD.out hlt HA.out HB.out HCc.out hok L hL
        have HBad := Lib.hid hbad
        clear hbad HGD HLN HA HB HCc HUG HBK R6 HY1 HY2 HY3 HIN
        by_cases ha1 : (a : Int) < 1
        · clear hok
          go_wp2_with fail
          go_ret2
          exact ⟨HK6.out, Or.inl ⟨rfl, HBad.out⟩⟩
        · have hb1 : (b : Int) < 1 := by omega
          clear hok
          go_wp2_with fail
          go_ret2
          exact ⟨HK6.out, Or.inl ⟨rfl, HBad.out⟩⟩
    · obtain rfl : k = n := by omega
      obtain ⟨E, hE⟩ : ∃ E, E = (if err = 0 ∧ 0 < ys.length then 6 else err) := ⟨_, rfl⟩
      have hend := end_any wr rb u ys err HIN.out.rd
      rw [← hE] at hend
      have HEnd := Lib.hid hend
      have hkl : k ≤ 900 := by have := HIN.out.len; omega
      have hbv : BookV wr (.pointer (some ⟨bb, 0, none⟩)) 1000 H := (show BookV wr (.pointer (some ⟨bb, 0, none⟩)) k H from ⟨bb, hv, rfl, HIN.out.bk, HIN.out.rows⟩).more (by omega)
      have HBV := Lib.hid hbv
      have HKW := Lib.hid HIN.out.kept
      have hgd := gd_end HIN.out.gd
      have HGE := Lib.hid hgd
      clear hend hbv hgd
      by_cases hE0 : E = 0
      · subst hE0
        have HMB := Lib.hid (mbytes_any wr _ 1000 H HBV.out (by omega))
        have hbyt : ∀ x ∈ bytesE (allE H), x < 256 := fun x hx => by
          unfold bytesE encE encOne at hx
          simp only [List.mem_append, List.mem_flatMap] at hx
          rcases hx with hx | ⟨_, _, (hx | hx) | hx⟩ <;> exact enc_byte _ x hx
        have HBE := Lib.hid hbyt
        have HPk := Lib.hid (HP.out.kept HKW.out (fun _ _ h => h))
        clear hbyt hE HIN
        go_wp2_with (first
          | (go_at_call 76; refine HEnd.out.mono ?_; rintro e w7 ⟨rfl, rfl⟩)
          | (go_at_call 40; refine HMB.out.mono ?_; rintro e w8 ⟨v8, rfl, f8, k8⟩
             have F8 := Lib.hid f8; have K8 := Lib.hid k8
             clear f8 k8)
          | (go_at_call 77; refine (bequal_any w8 _ _ _ xs F8.out.reads (HPk.out.kept K8.out (fun _ _ h => h)) HBE.out HBY.out).mono ?_; rintro e w9 ⟨rfl, rfl⟩
             obtain ⟨dq, hdq⟩ : ∃ dq, dq = decide (bytesE (allE H) = xs) := ⟨_, rfl⟩
             rw [← hdq]
             have HDQ := Lib.hid hdq
             clear hdq
             cases dq))
        · go_ret2
          refine ⟨HKW.out.then K8.out, Or.inl ⟨rfl, fun L hL hx => ?_⟩⟩
          have h1 := HDQ.out
          have h2 := (HGE.out L hL hx).2.2
          rw [h2, ← hx] at h1
          simp at h1
        · go_ret2
          have h1 := HDQ.out
          exact ⟨HKW.out.then K8.out, Or.inr ⟨_, H, rfl, HBV.out.kept K8.out, (of_decide_eq_true h1.symm).symm, fun L hL hx => (HGE.out L hL hx).2.2⟩⟩
      · have he1 : (E == 0) = false := by simpa using hE0
        have he2 : (E != 0) = true := by simpa using hE0
        have HBad : Hid (∀ L, GoodL L → xs ≠ bytesE L) := Lib.hid fun L hL hx => by
          obtain ⟨h1, h2, _⟩ := HGE.out L hL hx
          rw [h1, h2] at hE
          simp at hE
          exact hE0 hE
        clear hE hE0 HGE HBV HIN
        go_wp2_with fail
        refine HEnd.out.mono ?_
        rintro e w7 ⟨rfl, rfl⟩
        go_wp2_with fail
        go_ret2
        exact ⟨HKW.out, Or.inl ⟨rfl, HBad.out⟩⟩
end Go.Proofs.YtccanbjnbmihgaaDoor
/-
  arbacref12: before, active, Revoke, Expire, Assign.
-/
namespace Go.Proofs.YtccanbjnbmihgaaDoor
open Go.RowKit Go.Shelf
set_option linter.unusedVariables false
set_option linter.unusedSimpArgs false

theorem info_entR : (Tryd.prog.info? 31).map (fun i => (i.zero, i.size, i.bytes)) = some (some (.agg #[.int .i64 0, .int .i64 0, .int .i64 0]), 3, 24) := by kernel_rfl

/-- An append of one entry to a row of the reference's own. -/
theorem wpList_pushR {w : World} {ops : Array Oper} {rest : List Oper} {o : Oper} {a : Act} {Q : Exit → Act → World → Prop} (hw : Region.wanted o (yielded ops a.tmps) = true) (s x : Operand)
    (ho : o.op = .call { callee := .builtin .append, args := #[s, x], argTypes := #[26, 26] }) (hty : o.type = 26) (B : Nat) (v : Value) (acc : List Ent) (g : Nat) (z : Ent) (hd : a.eval s = v) (hs : a.eval x = .slice (some ⟨g, 0, none⟩) 1 1)
    (hown : OwnE 31 B w v acc) (hz : One w g z) (hl : acc.length ≤ 900000) (hB : B ≤ w.heap.size)
    (h : ∀ v' w', OwnE 31 B w' v' (acc ++ [z]) → Kept (fun k => v.ownBlock = some k) w w' → wpList Tryd.prog ops Q rest (a.put o.dst v') w') : wpList Tryd.prog ops Q (o :: rest) a w := by
  obtain ⟨a', c', w', hr, hf, hk⟩ := append_ents_run Tryd.underlying26 info_entR hown hz.ents (by simp; omega) hB
  exact wpList_appendI_run hw s x _ _ ho _ _ hd hs (by rw [hty]; exact hr) (h _ _ hf hk)
theorem OwnE.alloc {T : TypeId} {B : Nat} {w : World} {v : Value} {l : List Ent} (h : OwnE T B w v l) (o : Obj) : OwnE T B (w.alloc o) v l := World.ownsRow.alloc h o
theorem one_new (w : World) (x : Ent) (T : TypeId) : One (w.alloc (.cells #[.int .i64 x.u, .int .i64 x.r, .int .i64 x.t] T)) w.heap.size x := ⟨T, heap_alloc_new w _⟩
theorem one_new1 (w : World) (o : Obj) (x : Ent) (T : TypeId) : One ((w.alloc o).alloc (.cells #[.int .i64 x.u, .int .i64 x.r, .int .i64 x.t] T)) (w.heap.size + 1) x := by
  have := one_new (w.alloc o) x T
  rwa [show (w.alloc o).heap.size = w.heap.size + 1 by simp] at this
theorem filterE_take (p : Ent → Bool) (l : List Ent) (k : Nat) (hk : k < l.length) : (l.take (k + 1)).filter p = (l.take k).filter p ++ (if p (l.getD k ent0) then [l.getD k ent0] else []) := by
  rw [List.take_add_one, List.filter_append]
  simp [List.getD, hk]
  split <;> simp_all

set_option maxRecDepth 100000 in
set_option maxHeartbeats 1600000 in
theorem before_any (x y : Ent) (w : World) : Calls Tryd.prog 54 #[entV x, entV y] w fun e w' => e = .returned (.bool (bef x y)) ∧ Kept (fun _ => False) w w' := by
  unfold entV
  obtain ⟨xu, xr, xt⟩ := x
  obtain ⟨yu, yr, yt⟩ := y
  have HK := Lib.hid ((Kept.alloc (fun _ => False) w (.cells #[.int .i64 xu, .int .i64 xr, .int .i64 xt] 31)).then (Kept.alloc _ _ (.cells #[.int .i64 yu, .int .i64 yr, .int .i64 yt] 31)))
  by_cases h1 : xu < yu
  · have hb : bef ⟨xu, xr, xt⟩ ⟨yu, yr, yt⟩ = true := by unfold bef; simp; omega
    rw [hb]; clear hb
    go_enter Tryd.func54, Tryd.ntmps54
    go_wp2_with fail
    go_ret
    exact ⟨rfl, HK.out⟩
  · by_cases h2 : xu = yu
    · subst h2
      by_cases h3 : xr < yr
      · have hb : bef ⟨xu, xr, xt⟩ ⟨xu, yr, yt⟩ = true := by unfold bef; simp; omega
        rw [hb]; clear hb
        go_enter Tryd.func54, Tryd.ntmps54
        go_wp2_with fail
        go_ret
        exact ⟨rfl, HK.out⟩
      · have hb : bef ⟨xu, xr, xt⟩ ⟨xu, yr, yt⟩ = false := by unfold bef; simp; omega
        rw [hb]; clear hb
        go_enter Tryd.func54, Tryd.ntmps54
        go_wp2_with fail
        go_ret
        exact ⟨rfl, HK.out⟩
    · have hb : bef ⟨xu, xr, xt⟩ ⟨yu, yr, yt⟩ = false := by unfold bef; simp; omega
      rw [hb]; clear hb
      go_enter Tryd.func54, Tryd.ntmps54
      go_wp2_with fail
      go_ret
      exact ⟨rfl, HK.out⟩

set_option maxRecDepth 100000 in
set_option maxHeartbeats 3200000 in
theorem rexpire_any (w : World) (v : Value) (L : List Ent) (d : Int) (h : Ents w v L) (hl : L.length ≤ 800000) :
    Calls Tryd.prog 18 #[v, .int .i64 d] w fun e w' => ∃ v', e = .returned v' ∧ OwnE 31 w.heap.size w' v' (L.filter (keepE d)) ∧ Kept (fun _ => False) w w' := by
  obtain ⟨a, c, rfl, h1, h2⟩ := h.form
  have HE := Lib.hid h
  obtain ⟨N, hN⟩ : ∃ N, N = L.length := ⟨_, rfl⟩
  rw [← hN] at h1 HE ⊢
  have HN := Lib.hid hN
  unfold maxLen at h2
  have hNl : N ≤ 800000 := by omega
  clear h hN hl
  go_enter Tryd.func18, Tryd.ntmps18
  go_wp2_with fail
  go_loopw [5, 10] (fun ov iv wr => ∃ k : Nat, k ≤ N ∧ iv = .int .i64 k ∧ Hid (OwnE 31 w.heap.size wr ov ((L.take k).filter (keepE d))) ∧ Hid (Kept (fun _ => False) w wr)) (fun _ iv _ => N - (intOf iv).toNat)
  case atStart => exact ⟨0, by omega, rfl, Lib.hid (OwnE.nil _ _ _), Lib.hid (Kept.refl _ _)⟩
  case round =>
    obtain ⟨k, hk, rfl, ho, hkw⟩ := hrel
    by_cases hlt : k < N
    · have l1 : (k : Int) < (N : Int) := by omega
      have l0 : (0 : Int) ≤ (k : Int) := by omega
      obtain ⟨g, off, rfl, hg, hc⟩ := (HE.out.kept hkw.out (fun _ _ h => h)).at (k := k) (by have := HN.out; omega)
      have HS := Lib.hid (filterE_take (keepE d) L k (by have := HN.out; omega))
      have hfl : ((L.take k).filter (keepE d)).length ≤ 900000 := by
        have h3 := List.length_filter_le (keepE d) (L.take k)
        rw [List.length_take] at h3; omega
      generalize hx : L.getD k ent0 = x at hc HS
      obtain ⟨xu, xr, xt⟩ := x
      obtain ⟨c0, c1, c2⟩ := hc
      simp only at c0 c1 c2
      have HFl := Lib.hid hfl
      clear hx hfl
      generalize ((L.take k).filter (keepE d)) = acc at ho HS HFl
      obtain ⟨b0, b1, b2⟩ := box3c wr xu xr xt 31
      have HO2 := Lib.hid (ho.out.alloc (.cells #[.int .i64 xu, .int .i64 xr, .int .i64 xt] 31))
      have HK2 := Lib.hid (hkw.out.then (Kept.alloc (fun _ => False) wr (.cells #[.int .i64 xu, .int .i64 xr, .int .i64 xt] 31)))
      by_cases hd : xt < d
      · have hs : Hid (((L.take (k + 1)).filter (keepE d)) = acc) := by
          have e : keepE d ⟨xu, xr, xt⟩ = false := by unfold keepE; simp [hd]
          have := HS.out; rw [e] at this; exact Lib.hid (by simpa using this)
        have hd2 : ¬ d ≤ xt := by omega
        have HO3 : Hid (OwnE 31 w.heap.size (wr.alloc (.cells #[.int .i64 xu, .int .i64 xr, .int .i64 xt] 31)) u5 ((L.take (k + 1)).filter (keepE d))) := by rw [hs.out]; exact HO2
        clear HS hs
        go_wp2_with fail
        go_roundw
        case rel => first | exact ⟨k + 1, by omega, by go_num, HO3, HK2⟩ | ((repeat apply Exists.intro); exact ⟨⟨k + 1, by omega, by go_num, HO3, HK2⟩, rfl⟩)
        case measure => simp [intOf]; omega
      · have hs : Hid (((L.take (k + 1)).filter (keepE d)) = acc ++ [⟨xu, xr, xt⟩]) := by
          have e : keepE d ⟨xu, xr, xt⟩ = true := by unfold keepE; simp [hd]
          have := HS.out; rw [e] at this; exact Lib.hid (by simpa using this)
        clear HS
        have hd2 : d ≤ xt := by omega
        clear hd
        go_wp2_with (at_builtin
                     refine wpList_pushR (by rfl) _ _ rfl rfl w.heap.size _ _ (wr.heap.size + 1) ⟨xu, xr, xt⟩ rfl rfl (HO2.out.alloc _) (one_new1 wr _ ⟨xu, xr, xt⟩ _) HFl.out (Nat.le_trans HK2.out.size (Kept.alloc (fun _ => False) _ _).size) ?_
                     intro v' w3 o3 k3
                     have O3 : Hid (OwnE 31 w.heap.size w3 v' ((L.take (k + 1)).filter (keepE d))) := by rw [hs.out]; exact Lib.hid o3
                     have K3 : Hid (Kept (fun _ => False) w w3) := Lib.hid ((HK2.out.then (Kept.alloc _ _ _)).trans k3 (fun _ _ h => h) (fun i hi e => by have := (World.ownsRow.lt HO2.out i e).1; omega))
                     clear o3 k3)
        go_roundw
        case rel => first | exact ⟨k + 1, by omega, by go_num, O3, K3⟩ | ((repeat apply Exists.intro); exact ⟨⟨k + 1, by omega, by go_num, O3, K3⟩, rfl⟩)
        case measure => simp [intOf]; omega
    · obtain rfl : k = N := by omega
      have ho2 := ho.out
      rw [List.take_of_length_le (by have := HN.out; omega)] at ho2
      have HO := Lib.hid ho2
      clear ho2 ho
      go_wp2_with fail
      go_ret
      exact ⟨_, rfl, HO.out, hkw.out⟩
end Go.Proofs.YtccanbjnbmihgaaDoor
/-
  arbacref12: Revoke, Assign.
-/
namespace Go.Proofs.YtccanbjnbmihgaaDoor
open Go.RowKit Go.Shelf
set_option linter.unusedVariables false
set_option linter.unusedSimpArgs false

/-- What the reference's Revoke returns. -/
def RvkRes (w w' : World) (e : Ending) (L : List Ent) (u r : Int) : Prop :=
  ((L.filter (notE u r)).length = L.length ∧ e = .returned (.tuple #[.slice none 0 0, .int .i64 4])) ∨
  ((L.filter (notE u r)).length ≠ L.length ∧ ∃ v', e = .returned (.tuple #[v', .int .i64 0]) ∧ OwnE 31 w.heap.size w' v' (L.filter (notE u r)))

set_option maxRecDepth 100000 in
set_option maxHeartbeats 3200000 in
theorem rrevoke_any (w : World) (v : Value) (L : List Ent) (u r : Int) (h : Ents w v L) (hl : L.length ≤ 800000) :
    Calls Tryd.prog 16 #[v, .int .i64 u, .int .i64 r] w fun e w' => RvkRes w w' e L u r ∧ Kept (fun _ => False) w w' := by
  obtain ⟨a, c, rfl, h1, h2⟩ := h.form
  have HE := Lib.hid h
  obtain ⟨N, hN⟩ : ∃ N, N = L.length := ⟨_, rfl⟩
  rw [← hN] at h1 HE ⊢
  have HN := Lib.hid hN
  unfold maxLen at h2
  have hNl : N ≤ 800000 := by omega
  clear h hN hl
  go_enter Tryd.func16, Tryd.ntmps16
  go_wp2_with fail
  go_loopw [8, 13] (fun ov iv wr => ∃ k : Nat, k ≤ N ∧ iv = .int .i64 k ∧ Hid (OwnE 31 w.heap.size wr ov ((L.take k).filter (notE u r))) ∧ Hid (Kept (fun _ => False) w wr)) (fun _ iv _ => N - (intOf iv).toNat)
  case atStart => exact ⟨0, by omega, rfl, Lib.hid (OwnE.nil _ _ _), Lib.hid (Kept.refl _ _)⟩
  case round =>
    obtain ⟨k, hk, rfl, ho, hkw⟩ := hrel
    by_cases hlt : k < N
    · have l1 : (k : Int) < (N : Int) := by omega
      have l0 : (0 : Int) ≤ (k : Int) := by omega
      obtain ⟨g, off, rfl, hg, hc⟩ := (HE.out.kept hkw.out (fun _ _ h => h)).at (k := k) (by have := HN.out; omega)
      have HS := Lib.hid (filterE_take (notE u r) L k (by have := HN.out; omega))
      have hfl : ((L.take k).filter (notE u r)).length ≤ 900000 := by
        have h3 := List.length_filter_le (notE u r) (L.take k)
        rw [List.length_take] at h3; omega
      generalize hx : L.getD k ent0 = x at hc HS
      obtain ⟨xu, xr, xt⟩ := x
      obtain ⟨c0, c1, c2⟩ := hc
      simp only at c0 c1 c2
      have HFl := Lib.hid hfl
      clear hx hfl
      generalize ((L.take k).filter (notE u r)) = acc at ho HS HFl
      obtain ⟨b0, b1, b2⟩ := box3c wr xu xr xt 31
      have HO2 := Lib.hid (ho.out.alloc (.cells #[.int .i64 xu, .int .i64 xr, .int .i64 xt] 31))
      have HK2 := Lib.hid (hkw.out.then (Kept.alloc (fun _ => False) wr (.cells #[.int .i64 xu, .int .i64 xr, .int .i64 xt] 31)))
      by_cases hd : xu = u
      · by_cases hd2 : xr = r
        · skip
          have hs : Hid (((L.take (k + 1)).filter (notE u r)) = acc) := by
            have e : notE u r ⟨xu, xr, xt⟩ = false := by unfold notE; simp [hd, hd2]
            have := HS.out; rw [e] at this; exact Lib.hid (by simpa using this)
          have HO3 : Hid (OwnE 31 w.heap.size (wr.alloc (.cells #[.int .i64 xu, .int .i64 xr, .int .i64 xt] 31)) u8 ((L.take (k + 1)).filter (notE u r))) := by rw [hs.out]; exact HO2
          clear HS hs
          subst hd; subst hd2
          go_wp2_with fail
          go_roundw
          case rel => first | exact ⟨k + 1, by omega, by go_num, HO3, HK2⟩ | ((repeat apply Exists.intro); exact ⟨⟨k + 1, by omega, by go_num, HO3, HK2⟩, rfl⟩)
          case measure => simp [intOf]; omega
        · skip
          have hs : Hid (((L.take (k + 1)).filter (notE u r)) = acc ++ [⟨xu, xr, xt⟩]) := by
            have e : notE u r ⟨xu, xr, xt⟩ = true := by unfold notE; simp; omega
            have := HS.out; rw [e] at this; exact Lib.hid (by simpa using this)
          have HT : Hid (∀ W v', OwnE 31 w.heap.size W v' (acc ++ [⟨xu, xr, xt⟩]) → OwnE 31 w.heap.size W v' ((L.take (k + 1)).filter (notE u r))) := Lib.hid fun W v' h => by rw [hs.out]; exact h
          clear HS hs
          subst hd
          go_wp2_with (at_builtin
                       refine wpList_pushR (by rfl) _ _ rfl rfl w.heap.size _ _ (wr.heap.size + 1) ⟨xu, xr, xt⟩ rfl rfl (HO2.out.alloc _) (one_new1 wr _ ⟨xu, xr, xt⟩ _) HFl.out (Nat.le_trans HK2.out.size (Kept.alloc (fun _ => False) _ _).size) ?_
                       intro v' w3 o3 k3
                       have O3 := Lib.hid (HT.out w3 v' o3)
                       have K3 : Hid (Kept (fun _ => False) w w3) := Lib.hid ((HK2.out.then (Kept.alloc _ _ _)).trans k3 (fun _ _ h => h) (fun i hi e => by have := (World.ownsRow.lt HO2.out i e).1; omega))
                       clear o3 k3)
          go_roundw
          case rel => first | exact ⟨k + 1, by omega, by go_num, O3, K3⟩ | ((repeat apply Exists.intro); exact ⟨⟨k + 1, by omega, by go_num, O3, K3⟩, rfl⟩)
          case measure => simp [intOf]; omega
      · skip
        have hs : Hid (((L.take (k + 1)).filter (notE u r)) = acc ++ [⟨xu, xr, xt⟩]) := by
          have e : notE u r ⟨xu, xr, xt⟩ = true := by unfold notE; simp; omega
          have := HS.out; rw [e] at this; exact Lib.hid (by simpa using this)
        have HT : Hid (∀ W v', OwnE 31 w.heap.size W v' (acc ++ [⟨xu, xr, xt⟩]) → OwnE 31 w.heap.size W v' ((L.take (k + 1)).filter (notE u r))) := Lib.hid fun W v' h => by rw [hs.out]; exact h
        clear HS hs
        go_wp2_with (at_builtin
                     refine wpList_pushR (by rfl) _ _ rfl rfl w.heap.size _ _ (wr.heap.size + 1) ⟨xu, xr, xt⟩ rfl rfl (HO2.out.alloc _) (one_new1 wr _ ⟨xu, xr, xt⟩ _) HFl.out (Nat.le_trans HK2.out.size (Kept.alloc (fun _ => False) _ _).size) ?_
                     intro v' w3 o3 k3
                     have O3 := Lib.hid (HT.out w3 v' o3)
                     have K3 : Hid (Kept (fun _ => False) w w3) := Lib.hid ((HK2.out.then (Kept.alloc _ _ _)).trans k3 (fun _ _ h => h) (fun i hi e => by have := (World.ownsRow.lt HO2.out i e).1; omega))
                     clear o3 k3)
        go_roundw
        case rel => first | exact ⟨k + 1, by omega, by go_num, O3, K3⟩ | ((repeat apply Exists.intro); exact ⟨⟨k + 1, by omega, by go_num, O3, K3⟩, rfl⟩)
        case measure => simp [intOf]; omega
    · obtain rfl : k = N := by omega
      have ho2 := ho.out
      rw [List.take_of_length_le (by have := HN.out; omega)] at ho2
      have HO := Lib.hid ho2
      obtain ⟨oa, oc, hof, _, _⟩ := ho2.form
      obtain ⟨m, hm⟩ : ∃ m, m = (L.filter (notE u r)).length := ⟨_, rfl⟩
      rw [← hm] at hof
      subst hof
      have HM := Lib.hid hm
      clear ho2 ho hm
      by_cases he : m = k
      · subst he
        go_wp2_with fail
        go_ret2
        exact ⟨Or.inl ⟨by rw [← HM.out, ← HN.out], rfl⟩, hkw.out⟩
      · have he2 : ¬ ((m : Int) = (k : Int)) := by omega
        go_wp2_with fail
        go_ret2
        exact ⟨Or.inr ⟨by rw [← HM.out, ← HN.out]; exact he, _, rfl, HO.out⟩, hkw.out⟩
end Go.Proofs.YtccanbjnbmihgaaDoor
/-
  arbacref12: Assign.
-/
namespace Go.Proofs.YtccanbjnbmihgaaDoor
open Go.RowKit Go.Shelf
set_option linter.unusedVariables false
set_option linter.unusedSimpArgs false

theorem OwnE.lowR {T : TypeId} {B B' : Nat} {w : World} {v : Value} {l : List Ent} (h : OwnE T B w v l) (hb : B' ≤ B) : OwnE T B' w v l := by
  unfold OwnE at h ⊢
  refine ⟨h.1, ?_⟩
  rcases h.2 with h | ⟨g, cap, cur, h1, h2, h3⟩
  · exact Or.inl h
  · exact Or.inr ⟨g, cap, cur, h1, by omega, h3⟩
/-- The entries taken so far, the new one among them as soon as its place has come. -/
def insTo (x : Ent) (l : List Ent) : List Ent := if l.any (bef x) then insE x l else l
theorem insE_len (x : Ent) : ∀ l : List Ent, (insE x l).length = l.length + 1
  | [] => rfl
  | y :: t => by
    rw [insE]
    split
    · simp
    · rw [List.length_cons, insE_len x t, List.length_cons]
theorem insTo_len (x : Ent) (l : List Ent) : (insTo x l).length ≤ l.length + 1 := by
  unfold insTo
  split
  · rw [insE_len]; exact Nat.le_refl _
  · omega
theorem insE_any (x : Ent) (m : List Ent) : ∀ l : List Ent, l.any (bef x) = true → insE x (l ++ m) = insE x l ++ m
  | [], h => by simp at h
  | y :: t, h => by
    rw [List.cons_append, insE, insE]
    by_cases hb : bef x y = true
    · rw [if_pos hb, if_pos hb]; rfl
    · rw [if_neg hb, if_neg hb, insE_any x m t (by simpa [hb] using h)]; rfl
theorem not_any {x : Ent} {l : List Ent} (h : l.any (bef x) = false) : ∀ y ∈ l, bef x y = false := fun y hy => by
  have := List.any_eq_false.1 h y hy
  simpa using this
theorem insTo_step (x : Ent) (R : List Ent) (k : Nat) (hk : k < R.length) :
    insTo x (R.take (k + 1)) = match (R.take k).any (bef x), bef x (R.getD k ent0) with
      | true, _ => insTo x (R.take k) ++ [R.getD k ent0]
      | false, true => insTo x (R.take k) ++ [x] ++ [R.getD k ent0]
      | false, false => insTo x (R.take k) ++ [R.getD k ent0] := by
  have e : R.take (k + 1) = R.take k ++ [R.getD k ent0] := by rw [List.take_add_one]; simp [List.getD, hk]
  rw [e]
  generalize R.getD k ent0 = y
  generalize R.take k = l
  unfold insTo
  cases ha : l.any (bef x) with
  | true => simp [ha, insE_any x [y] l ha]
  | false =>
    cases hb : bef x y with
    | true =>
      have : (l ++ [y]).any (bef x) = true := by simp [hb]
      simp only [this, if_true]
      rw [insE_skip x [y] l (not_any ha), insE, if_pos hb]
      simp
    | false =>
      have : (l ++ [y]).any (bef x) = false := by rw [List.any_append, ha]; simp [hb]
      simp [this]
theorem any_step (x : Ent) (R : List Ent) (k : Nat) (hk : k < R.length) : (R.take (k + 1)).any (bef x) = ((R.take k).any (bef x) || bef x (R.getD k ent0)) := by
  have e : R.take (k + 1) = R.take k ++ [R.getD k ent0] := by rw [List.take_add_one]; simp [List.getD, hk]
  rw [e, List.any_append]; simp

set_option maxRecDepth 100000 in
set_option maxHeartbeats 4000000 in
theorem rassign_any (w : World) (v : Value) (L : List Ent) (xu xr xt : Int) (h : Ents w v L) (hl : L.length ≤ 700000) (hx : asgErr xu xr xt = 0) :
    Calls Tryd.prog 20 #[v, .agg #[.int .i64 xu, .int .i64 xr, .int .i64 xt]] w fun e w' => ∃ v', e = .returned (.tuple #[v', .int .i64 0]) ∧ OwnE 31 w.heap.size w' v' (asgE L ⟨xu, xr, xt⟩) ∧ Kept (fun _ => False) w w' := by
  obtain ⟨a, c, rfl, h1, h2⟩ := h.form
  have hxb : (1 ≤ xu ∧ xu ≤ 256) ∧ (1 ≤ xr ∧ xr ≤ 63) ∧ 0 ≤ xt ∧ xt ≤ 30000 := by
    unfold asgErr at hx
    split at hx
    · simp at hx
    · split at hx
      · simp at hx
      · omega
  obtain ⟨⟨x1, x2⟩, ⟨x3, x4⟩, x5, x6⟩ := hxb
  unfold asgE
  obtain ⟨R, hR⟩ : ∃ R, R = L.filter (notE xu xr) := ⟨_, rfl⟩
  rw [show L.filter (notE (⟨xu, xr, xt⟩ : Ent).u (⟨xu, xr, xt⟩ : Ent).r) = R from hR.symm]
  have HE := Lib.hid (h.kept (Kept.alloc (fun _ => False) w (.cells #[.int .i64 xu, .int .i64 xr, .int .i64 xt] 31)) (fun _ _ h => h))
  have HBX0 := Lib.hid (One.at (one_new w ⟨xu, xr, xt⟩ 31))
  obtain ⟨N, hN⟩ : ∃ N, N = L.length := ⟨_, rfl⟩
  rw [← hN] at h1 HE ⊢
  have HN := Lib.hid hN; have HR := Lib.hid hR
  unfold maxLen at h2
  have hNl : N ≤ 700000 := by omega
  have HKA : Hid (Kept (fun _ => False) w (w.alloc (.cells #[.int .i64 xu, .int .i64 xr, .int .i64 xt] 31))) := Lib.hid (Kept.alloc _ _ _)
  clear h hN hl hx hR
  have hRl : R.length ≤ N := by rw [HR.out, HN.out]; exact List.length_filter_le _ _
  go_enter Tryd.func20, Tryd.ntmps20
  go_wp2_with fail
  generalize w.alloc (.cells #[.int .i64 xu, .int .i64 xr, .int .i64 xt] 31) = wB at *
  obtain ⟨P, hP⟩ : ∃ P, P = w.heap.size := ⟨_, rfl⟩
  rw [← hP] at HBX0 ⊢
  have hPw : w.heap.size ≤ P := by omega
  have HBX := HBX0
  refine (rrevoke_any wB _ L xu xr HE.out (by have := HN.out; omega)).mono ?_
  rintro e w1 ⟨hres, k1⟩
  have K1 := Lib.hid k1
  have K1b : Hid (Kept (fun _ => False) w w1) := Lib.hid (HKA.out.then k1)
  have K1z : Hid (w.heap.size ≤ w1.heap.size) := Lib.hid K1b.out.size
  clear k1 hP
  rcases hres with ⟨hlen, rfl⟩ | ⟨hlen, rv, rfl, orv⟩
  · have hRL : R = L := by rw [HR.out]; exact List.filter_eq_self.2 (fun y hy => by
      have := (List.length_filter_eq_length_iff (p := notE xu xr) (l := L)).1 hlen
      exact this y hy)
    have HEr : Hid (Ents w1 (.slice a N c) R) := by rw [hRL]; exact Lib.hid (HE.out.kept K1.out (fun _ _ h => h))
    have HRL : Hid (N = R.length) := by rw [hRL]; exact HN
    clear hlen hRL
    go_wp2_with fail
    go_loopw [8, 9, 52] (fun ov dv iv wr => ∃ k : Nat, k ≤ N ∧ iv = .int .i64 k ∧ dv = .bool ((R.take k).any (bef ⟨xu, xr, xt⟩)) ∧ Hid (OwnE 31 w1.heap.size wr ov (insTo ⟨xu, xr, xt⟩ (R.take k))) ∧ Hid (Kept (fun _ => False) w1 wr)) (fun _ _ iv _ => N - (intOf iv).toNat)
    case atStart => exact ⟨0, by omega, rfl, by simp, Lib.hid (by rw [List.take_zero]; exact OwnE.nil _ _ _), Lib.hid (Kept.refl _ _)⟩
    case round =>
      obtain ⟨k, hk, rfl, rfl, ho, hkw⟩ := hrel
      have hbox := fun W (kw : Kept (fun _ => False) w1 W) => (HBX.out.kept (K1.out.then kw) (fun h => h))
      have HB2 := Lib.hid hbox
      clear hbox
      have hil : (insTo ⟨xu, xr, xt⟩ (R.take k)).length ≤ k + 1 := Nat.le_trans (insTo_len _ _) (by rw [List.length_take]; omega)
      by_cases hlt : k < N
      · have l1 : (k : Int) < (N : Int) := by omega
        have l0 : (0 : Int) ≤ (k : Int) := by omega
        obtain ⟨g, off, rfl, hg, hc⟩ := (HEr.out.kept hkw.out (fun _ _ h => h)).at (k := k) (by have := HRL.out; omega)
        have hst := insTo_step ⟨xu, xr, xt⟩ R k (by have := HRL.out; omega)
        have han := any_step ⟨xu, xr, xt⟩ R k (by have := HRL.out; omega)
        generalize hy : R.getD k ent0 = y at hc hst han
        obtain ⟨yu, yr, yt⟩ := y
        obtain ⟨c0, c1, c2⟩ := hc
        simp only at c0 c1 c2
        have HST := Lib.hid hst; have HAN := Lib.hid han; have HIL := Lib.hid hil
        clear hy hst han hg hil
        generalize insTo ⟨xu, xr, xt⟩ (R.take k) = acc at ho HST HIL
        have hk2 : Kept (fun _ => False) w1 (wr.alloc (.cells #[.int .i64 yu, .int .i64 yr, .int .i64 yt] 31)) := hkw.out.then (Kept.alloc _ _ _)
        have HK2 := Lib.hid hk2
        have HO2 := Lib.hid (ho.out.alloc (.cells #[.int .i64 yu, .int .i64 yr, .int .i64 yt] 31))
        obtain ⟨b0, b1, b2⟩ := box3c wr yu yr yt 31
        obtain ⟨d0, d1, d2⟩ := HB2.out _ hk2
        simp only [Nat.zero_add] at d0 d1 d2
        have hQ : wr.heap.size < (wr.alloc (.cells #[.int .i64 yu, .int .i64 yr, .int .i64 yt] 31)).heap.size := by simp
        obtain ⟨dn, hdn⟩ : ∃ dn, dn = (R.take k).any (bef ⟨xu, xr, xt⟩) := ⟨_, rfl⟩
        rw [← hdn] at HST HAN ⊢
        obtain ⟨bb, hbb⟩ : ∃ bb, bb = bef ⟨xu, xr, xt⟩ ⟨yu, yr, yt⟩ := ⟨_, rfl⟩
        rw [← hbb] at HST HAN
        have HBF : Hid (∀ W, Calls Tryd.prog 54 #[.agg #[.int .i64 xu, .int .i64 xr, .int .i64 xt], .agg #[.int .i64 yu, .int .i64 yr, .int .i64 yt]] W fun e w' => e = .returned (.bool bb) ∧ Kept (fun _ => False) W w') := Lib.hid fun W => by rw [hbb]; exact before_any ⟨xu, xr, xt⟩ ⟨yu, yr, yt⟩ W
        have HNQ : Hid (u8.ownBlock ≠ some wr.heap.size) := Lib.hid fun e => by have := (World.ownsRow.lt ho.out _ e).2; omega
        clear hdn hbb hk2 ho
        have hw1 : w1.heap.size ≤ wr.heap.size := hkw.out.size
        cases dn
        · cases bb
          · have HT : Hid (∀ W v', OwnE 31 w1.heap.size W v' (acc ++ [⟨yu, yr, yt⟩]) → OwnE 31 w1.heap.size W v' (insTo ⟨xu, xr, xt⟩ (R.take (k + 1)))) := Lib.hid fun W v' h => by rw [HST.out]; exact h
            have ha : (R.take (k + 1)).any (bef ⟨xu, xr, xt⟩) = false := HAN.out
            have HA := Lib.hid ha
            clear HST HAN ha
            go_wp2_with fail
            generalize wr.alloc (.cells #[.int .i64 yu, .int .i64 yr, .int .i64 yt] 31) = W2 at *
            generalize wr.heap.size = Q at *
            refine (HBF.out W2).mono ?_
            rintro e w4 ⟨rfl, k4⟩
            have e0 : w4.cell? ⟨Q, 0, none⟩ = some (.int .i64 yu) := (k4.cell (p := ⟨Q, 0, none⟩) hQ (fun h => h)).trans b0
            have e1 : w4.cell? ⟨Q, 1, none⟩ = some (.int .i64 yr) := (k4.cell (p := ⟨Q, 1, none⟩) hQ (fun h => h)).trans b1
            have e2 : w4.cell? ⟨Q, 2, none⟩ = some (.int .i64 yt) := (k4.cell (p := ⟨Q, 2, none⟩) hQ (fun h => h)).trans b2
            have HO4 := Lib.hid (HO2.out.kept k4 (fun _ _ h => h)); have HK4 := Lib.hid (HK2.out.then k4)
            have hs4 := k4.size
            have HZ : Hid (w1.heap.size ≤ w4.heap.size) := by show _ ≤ _; omega
            clear k4 b0 b1 b2 d0 d1 d2 HO2 HK2 hQ hs4
            go_wp2_with (at_builtin
                         refine wpList_pushR (by rfl) _ _ rfl rfl w1.heap.size _ _ w4.heap.size ⟨yu, yr, yt⟩ rfl rfl (HO4.out.alloc _) (one_new w4 ⟨yu, yr, yt⟩ _) (by have := HIL.out; omega) (by have := HZ.out; simp; omega) ?_
                         intro v' w5 o5 k5
                         have O5 := Lib.hid (HT.out w5 v' o5)
                         have K5 : Hid (Kept (fun _ => False) w1 w5) := Lib.hid ((HK4.out.then (Kept.alloc _ _ _)).trans k5 (fun _ _ h => h) (fun i hi e => by have := (World.ownsRow.lt HO4.out i e).1; omega))
                         clear o5 k5 e0 e1 e2)
            go_roundw
            case rel => first | exact ⟨k + 1, by omega, by go_num, by rw [HA.out], O5, K5⟩ | ((repeat apply Exists.intro); exact ⟨⟨k + 1, by omega, by go_num, by rw [HA.out], O5, K5⟩, rfl⟩)
            case measure => simp [intOf]; omega
          · have HT : Hid (∀ W v', OwnE 31 w1.heap.size W v' (acc ++ [⟨xu, xr, xt⟩] ++ [⟨yu, yr, yt⟩]) → OwnE 31 w1.heap.size W v' (insTo ⟨xu, xr, xt⟩ (R.take (k + 1)))) := Lib.hid fun W v' h => by rw [HST.out]; exact h
            have ha : (R.take (k + 1)).any (bef ⟨xu, xr, xt⟩) = true := HAN.out
            have HA := Lib.hid ha
            clear HST HAN ha
            go_wp2_with fail
            generalize wr.alloc (.cells #[.int .i64 yu, .int .i64 yr, .int .i64 yt] 31) = W2 at *
            generalize wr.heap.size = Q at *
            refine (HBF.out W2).mono ?_
            rintro e w4 ⟨rfl, k4⟩
            have e0 : w4.cell? ⟨Q, 0, none⟩ = some (.int .i64 yu) := (k4.cell (p := ⟨Q, 0, none⟩) hQ (fun h => h)).trans b0
            have e1 : w4.cell? ⟨Q, 1, none⟩ = some (.int .i64 yr) := (k4.cell (p := ⟨Q, 1, none⟩) hQ (fun h => h)).trans b1
            have e2 : w4.cell? ⟨Q, 2, none⟩ = some (.int .i64 yt) := (k4.cell (p := ⟨Q, 2, none⟩) hQ (fun h => h)).trans b2
            have HO4 := Lib.hid (HO2.out.kept k4 (fun _ _ h => h)); have HK4 := Lib.hid (HK2.out.then k4)
            obtain ⟨f0, f1, f2⟩ := HB2.out _ HK4.out
            simp only [Nat.zero_add] at f0 f1 f2
            have hs4 := k4.size
            have hQ4 : Q < w4.heap.size := by omega
            have HZ : Hid (w1.heap.size ≤ Q) := hw1
            have HZ4 : Hid (w1.heap.size ≤ w4.heap.size) := by show _ ≤ _; omega
            clear k4 b0 b1 b2 d0 d1 d2 HO2 HK2 hQ hs4 hw1
            go_wp2_with (first
              | (at_builtin
                 refine wpList_pushR (by rfl) _ _ rfl rfl w1.heap.size _ _ w4.heap.size ⟨xu, xr, xt⟩ rfl rfl (HO4.out.alloc _) (one_new w4 ⟨xu, xr, xt⟩ _) (by have := HIL.out; omega) (by have := HZ4.out; simp; omega) ?_
                 intro v' w5 o5 k5
                 have K5 : Hid (Kept (fun _ => False) w1 w5) := Lib.hid ((HK4.out.then (Kept.alloc _ _ _)).trans k5 (fun _ _ h => h) (fun i hi e => by have := (World.ownsRow.lt HO4.out i e).1; omega))
                 have O5 := Lib.hid o5
                 have hn5 : ∀ j, (w4.alloc (.cells #[.int .i64 xu, .int .i64 xr, .int .i64 xt] 31)).cell? ⟨Q, j, none⟩ = w4.cell? ⟨Q, j, none⟩ := fun j => World.cell?_alloc_past _ _ _ hQ4
                 have hkq : ∀ j y, w4.cell? ⟨Q, j, none⟩ = some y → w5.cell? ⟨Q, j, none⟩ = some y := fun j y hj => (k5.cell (p := ⟨Q, j, none⟩) (by simp; omega) (fun e => HNQ.out e)).trans ((hn5 j).trans hj)
                 have g0 := hkq 0 _ e0; have g1 := hkq 1 _ e1; have g2 := hkq 2 _ e2
                 have HZ5 : Hid (w1.heap.size ≤ w5.heap.size) := Nat.le_trans HZ4.out (Nat.le_trans (Kept.alloc (fun _ => False) w4 _).size k5.size)
                 clear o5 k5 e0 e1 e2 f0 f1 f2 hn5 hkq)
              | (at_builtin
                 refine wpList_pushR (by rfl) _ _ rfl rfl w1.heap.size _ _ w5.heap.size ⟨yu, yr, yt⟩ rfl rfl (O5.out.alloc _) (one_new w5 ⟨yu, yr, yt⟩ _) (by have := HIL.out; simp; omega) (by have := HZ5.out; simp; omega) ?_
                 intro v'' w6 o6 k6
                 have O6 := Lib.hid (HT.out w6 v'' o6)
                 have K6 : Hid (Kept (fun _ => False) w1 w6) := Lib.hid ((K5.out.then (Kept.alloc _ _ _)).trans k6 (fun _ _ h => h) (fun i hi e => by have := (World.ownsRow.lt O5.out i e).1; omega))
                 clear o6 k6 g0 g1 g2))
            go_roundw
            case rel => first | exact ⟨k + 1, by omega, by go_num, by rw [HA.out], O6, K6⟩ | ((repeat apply Exists.intro); exact ⟨⟨k + 1, by omega, by go_num, by rw [HA.out], O6, K6⟩, rfl⟩)
            case measure => simp [intOf]; omega
        · have HT : Hid (∀ W v', OwnE 31 w1.heap.size W v' (acc ++ [⟨yu, yr, yt⟩]) → OwnE 31 w1.heap.size W v' (insTo ⟨xu, xr, xt⟩ (R.take (k + 1)))) := Lib.hid fun W v' h => by rw [HST.out]; exact h
          have ha : (R.take (k + 1)).any (bef ⟨xu, xr, xt⟩) = true := HAN.out
          have HA := Lib.hid ha
          clear HST HAN ha d0 d1 d2
          go_wp2_with (at_builtin
                       refine wpList_pushR (by rfl) _ _ rfl rfl w1.heap.size _ _ (wr.heap.size + 1) ⟨yu, yr, yt⟩ rfl rfl (HO2.out.alloc _) (one_new1 wr _ ⟨yu, yr, yt⟩ _) (by have := HIL.out; omega) (by simp; omega) ?_
                       intro v' w5 o5 k5
                       have O5 := Lib.hid (HT.out w5 v' o5)
                       have K5 : Hid (Kept (fun _ => False) w1 w5) := Lib.hid ((HK2.out.then (Kept.alloc _ _ _)).trans k5 (fun _ _ h => h) (fun i hi e => by have := (World.ownsRow.lt HO2.out i e).1; omega))
                       clear o5 k5)
          go_roundw
          case rel => first | exact ⟨k + 1, by omega, by go_num, by rw [HA.out], O5, K5⟩ | ((repeat apply Exists.intro); exact ⟨⟨k + 1, by omega, by go_num, by rw [HA.out], O5, K5⟩, rfl⟩)
          case measure => simp [intOf]; omega
      · obtain rfl : k = N := by omega
        have hall : R.take k = R := List.take_of_length_le (by have := HRL.out; omega)
        rw [hall] at ho hil ⊢
        obtain ⟨d0, d1, d2⟩ := HB2.out _ hkw.out
        simp only [Nat.zero_add] at d0 d1 d2
        have hw1 : w1.heap.size ≤ wr.heap.size := hkw.out.size
        obtain ⟨dn, hdn⟩ : ∃ dn, dn = R.any (bef ⟨xu, xr, xt⟩) := ⟨_, rfl⟩
        rw [← hdn]
        have HD := Lib.hid hdn
        clear hdn hall
        cases dn
        · have he : insTo ⟨xu, xr, xt⟩ R = R := by unfold insTo; rw [← HD.out]; rfl
          have he2 : insE ⟨xu, xr, xt⟩ R = R ++ [⟨xu, xr, xt⟩] := by
            have := insE_skip ⟨xu, xr, xt⟩ [] R (not_any HD.out.symm)
            rwa [List.append_nil] at this
          rw [he] at ho hil
          have HE2 := Lib.hid he2; have HIL := Lib.hid hil
          clear he he2 hil
          go_wp2_with (at_builtin
                       refine wpList_pushR (by rfl) _ _ rfl rfl w1.heap.size _ _ wr.heap.size ⟨xu, xr, xt⟩ rfl rfl (ho.out.alloc _) (one_new wr ⟨xu, xr, xt⟩ _) (by have := HIL.out; omega) (by simp; omega) ?_
                       intro v' w5 o5 k5
                       have O5 := Lib.hid o5
                       have K5 : Hid (Kept (fun _ => False) w1 w5) := Lib.hid ((hkw.out.then (Kept.alloc _ _ _)).trans k5 (fun _ _ h => h) (fun i hi e => by have := (World.ownsRow.lt ho.out i e).1; omega))
                       clear o5 k5 d0 d1 d2)
          go_ret2
          exact ⟨_, rfl, by rw [HE2.out]; exact OwnE.lowR O5.out K1z.out, K1b.out.then K5.out⟩
        · have he : insTo ⟨xu, xr, xt⟩ R = insE ⟨xu, xr, xt⟩ R := by unfold insTo; rw [← HD.out]; rfl
          rw [he] at ho
          clear he d0 d1 d2
          go_wp2_with fail
          go_ret2
          exact ⟨_, rfl, OwnE.lowR ho.out K1z.out, K1b.out.then hkw.out⟩
  · obtain ⟨ra, rc, hof, hrc1, hrc2⟩ := orv.form
    subst hof
    have hRe : L.filter (notE xu xr) = R := HR.out.symm
    rw [hRe] at orv hrc1 ⊢
    have HEr0 := Lib.hid orv.ents
    obtain ⟨M, hM⟩ : ∃ M, M = R.length := ⟨_, rfl⟩
    rw [← hM] at HEr0 hRl hrc1 ⊢
    have HEr : Hid (Ents w1 (.slice ra M rc) R) := HEr0
    have HRL : Hid (M = R.length) := Lib.hid hM
    unfold maxLen at hrc2
    clear hlen hM orv hRe HEr0
    go_wp2_with fail
    go_loopw [8, 9, 52] (fun ov dv iv wr => ∃ k : Nat, k ≤ M ∧ iv = .int .i64 k ∧ dv = .bool ((R.take k).any (bef ⟨xu, xr, xt⟩)) ∧ Hid (OwnE 31 w1.heap.size wr ov (insTo ⟨xu, xr, xt⟩ (R.take k))) ∧ Hid (Kept (fun _ => False) w1 wr)) (fun _ _ iv _ => M - (intOf iv).toNat)
    case atStart => exact ⟨0, by omega, rfl, by simp, Lib.hid (by rw [List.take_zero]; exact OwnE.nil _ _ _), Lib.hid (Kept.refl _ _)⟩
    case round =>
      obtain ⟨k, hk, rfl, rfl, ho, hkw⟩ := hrel
      have hbox := fun W (kw : Kept (fun _ => False) w1 W) => (HBX.out.kept (K1.out.then kw) (fun h => h))
      have HB2 := Lib.hid hbox
      clear hbox
      have hil : (insTo ⟨xu, xr, xt⟩ (R.take k)).length ≤ k + 1 := Nat.le_trans (insTo_len _ _) (by rw [List.length_take]; omega)
      by_cases hlt : k < M
      · have l1 : (k : Int) < (M : Int) := by omega
        have l0 : (0 : Int) ≤ (k : Int) := by omega
        obtain ⟨g, off, rfl, hg, hc⟩ := (HEr.out.kept hkw.out (fun _ _ h => h)).at (k := k) (by have := HRL.out; omega)
        have hst := insTo_step ⟨xu, xr, xt⟩ R k (by have := HRL.out; omega)
        have han := any_step ⟨xu, xr, xt⟩ R k (by have := HRL.out; omega)
        generalize hy : R.getD k ent0 = y at hc hst han
        obtain ⟨yu, yr, yt⟩ := y
        obtain ⟨c0, c1, c2⟩ := hc
        simp only at c0 c1 c2
        have HST := Lib.hid hst; have HAN := Lib.hid han; have HIL := Lib.hid hil
        clear hy hst han hg hil
        generalize insTo ⟨xu, xr, xt⟩ (R.take k) = acc at ho HST HIL
        have hk2 : Kept (fun _ => False) w1 (wr.alloc (.cells #[.int .i64 yu, .int .i64 yr, .int .i64 yt] 31)) := hkw.out.then (Kept.alloc _ _ _)
        have HK2 := Lib.hid hk2
        have HO2 := Lib.hid (ho.out.alloc (.cells #[.int .i64 yu, .int .i64 yr, .int .i64 yt] 31))
        obtain ⟨b0, b1, b2⟩ := box3c wr yu yr yt 31
        obtain ⟨d0, d1, d2⟩ := HB2.out _ hk2
        simp only [Nat.zero_add] at d0 d1 d2
        have hQ : wr.heap.size < (wr.alloc (.cells #[.int .i64 yu, .int .i64 yr, .int .i64 yt] 31)).heap.size := by simp
        obtain ⟨dn, hdn⟩ : ∃ dn, dn = (R.take k).any (bef ⟨xu, xr, xt⟩) := ⟨_, rfl⟩
        rw [← hdn] at HST HAN ⊢
        obtain ⟨bb, hbb⟩ : ∃ bb, bb = bef ⟨xu, xr, xt⟩ ⟨yu, yr, yt⟩ := ⟨_, rfl⟩
        rw [← hbb] at HST HAN
        have HBF : Hid (∀ W, Calls Tryd.prog 54 #[.agg #[.int .i64 xu, .int .i64 xr, .int .i64 xt], .agg #[.int .i64 yu, .int .i64 yr, .int .i64 yt]] W fun e w' => e = .returned (.bool bb) ∧ Kept (fun _ => False) W w') := Lib.hid fun W => by rw [hbb]; exact before_any ⟨xu, xr, xt⟩ ⟨yu, yr, yt⟩ W
        have HNQ : Hid (u8.ownBlock ≠ some wr.heap.size) := Lib.hid fun e => by have := (World.ownsRow.lt ho.out _ e).2; omega
        clear hdn hbb hk2 ho
        have hw1 : w1.heap.size ≤ wr.heap.size := hkw.out.size
        cases dn
        · cases bb
          · have HT : Hid (∀ W v', OwnE 31 w1.heap.size W v' (acc ++ [⟨yu, yr, yt⟩]) → OwnE 31 w1.heap.size W v' (insTo ⟨xu, xr, xt⟩ (R.take (k + 1)))) := Lib.hid fun W v' h => by rw [HST.out]; exact h
            have ha : (R.take (k + 1)).any (bef ⟨xu, xr, xt⟩) = false := HAN.out
            have HA := Lib.hid ha
            clear HST HAN ha
            go_wp2_with fail
            generalize wr.alloc (.cells #[.int .i64 yu, .int .i64 yr, .int .i64 yt] 31) = W2 at *
            generalize wr.heap.size = Q at *
            refine (HBF.out W2).mono ?_
            rintro e w4 ⟨rfl, k4⟩
            have e0 : w4.cell? ⟨Q, 0, none⟩ = some (.int .i64 yu) := (k4.cell (p := ⟨Q, 0, none⟩) hQ (fun h => h)).trans b0
            have e1 : w4.cell? ⟨Q, 1, none⟩ = some (.int .i64 yr) := (k4.cell (p := ⟨Q, 1, none⟩) hQ (fun h => h)).trans b1
            have e2 : w4.cell? ⟨Q, 2, none⟩ = some (.int .i64 yt) := (k4.cell (p := ⟨Q, 2, none⟩) hQ (fun h => h)).trans b2
            have HO4 := Lib.hid (HO2.out.kept k4 (fun _ _ h => h)); have HK4 := Lib.hid (HK2.out.then k4)
            have hs4 := k4.size
            have HZ : Hid (w1.heap.size ≤ w4.heap.size) := by show _ ≤ _; omega
            clear k4 b0 b1 b2 d0 d1 d2 HO2 HK2 hQ hs4
            go_wp2_with (at_builtin
                         refine wpList_pushR (by rfl) _ _ rfl rfl w1.heap.size _ _ w4.heap.size ⟨yu, yr, yt⟩ rfl rfl (HO4.out.alloc _) (one_new w4 ⟨yu, yr, yt⟩ _) (by have := HIL.out; omega) (by have := HZ.out; simp; omega) ?_
                         intro v' w5 o5 k5
                         have O5 := Lib.hid (HT.out w5 v' o5)
                         have K5 : Hid (Kept (fun _ => False) w1 w5) := Lib.hid ((HK4.out.then (Kept.alloc _ _ _)).trans k5 (fun _ _ h => h) (fun i hi e => by have := (World.ownsRow.lt HO4.out i e).1; omega))
                         clear o5 k5 e0 e1 e2)
            go_roundw
            case rel => first | exact ⟨k + 1, by omega, by go_num, by rw [HA.out], O5, K5⟩ | ((repeat apply Exists.intro); exact ⟨⟨k + 1, by omega, by go_num, by rw [HA.out], O5, K5⟩, rfl⟩)
            case measure => simp [intOf]; omega
          · have HT : Hid (∀ W v', OwnE 31 w1.heap.size W v' (acc ++ [⟨xu, xr, xt⟩] ++ [⟨yu, yr, yt⟩]) → OwnE 31 w1.heap.size W v' (insTo ⟨xu, xr, xt⟩ (R.take (k + 1)))) := Lib.hid fun W v' h => by rw [HST.out]; exact h
            have ha : (R.take (k + 1)).any (bef ⟨xu, xr, xt⟩) = true := HAN.out
            have HA := Lib.hid ha
            clear HST HAN ha
            go_wp2_with fail
            generalize wr.alloc (.cells #[.int .i64 yu, .int .i64 yr, .int .i64 yt] 31) = W2 at *
            generalize wr.heap.size = Q at *
            refine (HBF.out W2).mono ?_
            rintro e w4 ⟨rfl, k4⟩
            have e0 : w4.cell? ⟨Q, 0, none⟩ = some (.int .i64 yu) := (k4.cell (p := ⟨Q, 0, none⟩) hQ (fun h => h)).trans b0
            have e1 : w4.cell? ⟨Q, 1, none⟩ = some (.int .i64 yr) := (k4.cell (p := ⟨Q, 1, none⟩) hQ (fun h => h)).trans b1
            have e2 : w4.cell? ⟨Q, 2, none⟩ = some (.int .i64 yt) := (k4.cell (p := ⟨Q, 2, none⟩) hQ (fun h => h)).trans b2
            have HO4 := Lib.hid (HO2.out.kept k4 (fun _ _ h => h)); have HK4 := Lib.hid (HK2.out.then k4)
            obtain ⟨f0, f1, f2⟩ := HB2.out _ HK4.out
            simp only [Nat.zero_add] at f0 f1 f2
            have hs4 := k4.size
            have hQ4 : Q < w4.heap.size := by omega
            have HZ : Hid (w1.heap.size ≤ Q) := hw1
            have HZ4 : Hid (w1.heap.size ≤ w4.heap.size) := by show _ ≤ _; omega
            clear k4 b0 b1 b2 d0 d1 d2 HO2 HK2 hQ hs4 hw1
            go_wp2_with (first
              | (at_builtin
                 refine wpList_pushR (by rfl) _ _ rfl rfl w1.heap.size _ _ w4.heap.size ⟨xu, xr, xt⟩ rfl rfl (HO4.out.alloc _) (one_new w4 ⟨xu, xr, xt⟩ _) (by have := HIL.out; omega) (by have := HZ4.out; simp; omega) ?_
                 intro v' w5 o5 k5
                 have K5 : Hid (Kept (fun _ => False) w1 w5) := Lib.hid ((HK4.out.then (Kept.alloc _ _ _)).trans k5 (fun _ _ h => h) (fun i hi e => by have := (World.ownsRow.lt HO4.out i e).1; omega))
                 have O5 := Lib.hid o5
                 have hn5 : ∀ j, (w4.alloc (.cells #[.int .i64 xu, .int .i64 xr, .int .i64 xt] 31)).cell? ⟨Q, j, none⟩ = w4.cell? ⟨Q, j, none⟩ := fun j => World.cell?_alloc_past _ _ _ hQ4
                 have hkq : ∀ j y, w4.cell? ⟨Q, j, none⟩ = some y → w5.cell? ⟨Q, j, none⟩ = some y := fun j y hj => (k5.cell (p := ⟨Q, j, none⟩) (by simp; omega) (fun e => HNQ.out e)).trans ((hn5 j).trans hj)
                 have g0 := hkq 0 _ e0; have g1 := hkq 1 _ e1; have g2 := hkq 2 _ e2
                 have HZ5 : Hid (w1.heap.size ≤ w5.heap.size) := Nat.le_trans HZ4.out (Nat.le_trans (Kept.alloc (fun _ => False) w4 _).size k5.size)
                 clear o5 k5 e0 e1 e2 f0 f1 f2 hn5 hkq)
              | (at_builtin
                 refine wpList_pushR (by rfl) _ _ rfl rfl w1.heap.size _ _ w5.heap.size ⟨yu, yr, yt⟩ rfl rfl (O5.out.alloc _) (one_new w5 ⟨yu, yr, yt⟩ _) (by have := HIL.out; simp; omega) (by have := HZ5.out; simp; omega) ?_
                 intro v'' w6 o6 k6
                 have O6 := Lib.hid (HT.out w6 v'' o6)
                 have K6 : Hid (Kept (fun _ => False) w1 w6) := Lib.hid ((K5.out.then (Kept.alloc _ _ _)).trans k6 (fun _ _ h => h) (fun i hi e => by have := (World.ownsRow.lt O5.out i e).1; omega))
                 clear o6 k6 g0 g1 g2))
            go_roundw
            case rel => first | exact ⟨k + 1, by omega, by go_num, by rw [HA.out], O6, K6⟩ | ((repeat apply Exists.intro); exact ⟨⟨k + 1, by omega, by go_num, by rw [HA.out], O6, K6⟩, rfl⟩)
            case measure => simp [intOf]; omega
        · have HT : Hid (∀ W v', OwnE 31 w1.heap.size W v' (acc ++ [⟨yu, yr, yt⟩]) → OwnE 31 w1.heap.size W v' (insTo ⟨xu, xr, xt⟩ (R.take (k + 1)))) := Lib.hid fun W v' h => by rw [HST.out]; exact h
          have ha : (R.take (k + 1)).any (bef ⟨xu, xr, xt⟩) = true := HAN.out
          have HA := Lib.hid ha
          clear HST HAN ha d0 d1 d2
          go_wp2_with (at_builtin
                       refine wpList_pushR (by rfl) _ _ rfl rfl w1.heap.size _ _ (wr.heap.size + 1) ⟨yu, yr, yt⟩ rfl rfl (HO2.out.alloc _) (one_new1 wr _ ⟨yu, yr, yt⟩ _) (by have := HIL.out; omega) (by simp; omega) ?_
                       intro v' w5 o5 k5
                       have O5 := Lib.hid (HT.out w5 v' o5)
                       have K5 : Hid (Kept (fun _ => False) w1 w5) := Lib.hid ((HK2.out.then (Kept.alloc _ _ _)).trans k5 (fun _ _ h => h) (fun i hi e => by have := (World.ownsRow.lt HO2.out i e).1; omega))
                       clear o5 k5)
          go_roundw
          case rel => first | exact ⟨k + 1, by omega, by go_num, by rw [HA.out], O5, K5⟩ | ((repeat apply Exists.intro); exact ⟨⟨k + 1, by omega, by go_num, by rw [HA.out], O5, K5⟩, rfl⟩)
          case measure => simp [intOf]; omega
      · obtain rfl : k = M := by omega
        have hall : R.take k = R := List.take_of_length_le (by have := HRL.out; omega)
        rw [hall] at ho hil ⊢
        obtain ⟨d0, d1, d2⟩ := HB2.out _ hkw.out
        simp only [Nat.zero_add] at d0 d1 d2
        have hw1 : w1.heap.size ≤ wr.heap.size := hkw.out.size
        obtain ⟨dn, hdn⟩ : ∃ dn, dn = R.any (bef ⟨xu, xr, xt⟩) := ⟨_, rfl⟩
        rw [← hdn]
        have HD := Lib.hid hdn
        clear hdn hall
        cases dn
        · have he : insTo ⟨xu, xr, xt⟩ R = R := by unfold insTo; rw [← HD.out]; rfl
          have he2 : insE ⟨xu, xr, xt⟩ R = R ++ [⟨xu, xr, xt⟩] := by
            have := insE_skip ⟨xu, xr, xt⟩ [] R (not_any HD.out.symm)
            rwa [List.append_nil] at this
          rw [he] at ho hil
          have HE2 := Lib.hid he2; have HIL := Lib.hid hil
          clear he he2 hil
          go_wp2_with (at_builtin
                       refine wpList_pushR (by rfl) _ _ rfl rfl w1.heap.size _ _ wr.heap.size ⟨xu, xr, xt⟩ rfl rfl (ho.out.alloc _) (one_new wr ⟨xu, xr, xt⟩ _) (by have := HIL.out; omega) (by simp; omega) ?_
                       intro v' w5 o5 k5
                       have O5 := Lib.hid o5
                       have K5 : Hid (Kept (fun _ => False) w1 w5) := Lib.hid ((hkw.out.then (Kept.alloc _ _ _)).trans k5 (fun _ _ h => h) (fun i hi e => by have := (World.ownsRow.lt ho.out i e).1; omega))
                       clear o5 k5 d0 d1 d2)
          go_ret2
          exact ⟨_, rfl, by rw [HE2.out]; exact OwnE.lowR O5.out K1z.out, K1b.out.then K5.out⟩
        · have he : insTo ⟨xu, xr, xt⟩ R = insE ⟨xu, xr, xt⟩ R := by unfold insTo; rw [← HD.out]; rfl
          rw [he] at ho
          clear he d0 d1 d2
          go_wp2_with fail
          go_ret2
          exact ⟨_, rfl, OwnE.lowR ho.out K1z.out, K1b.out.then hkw.out⟩
end Go.Proofs.YtccanbjnbmihgaaDoor
/-
  arbacref12.Fit, arbacref12.Make, arbaclaw12.Make.
-/
namespace Go.Proofs.YtccanbjnbmihgaaDoor
open Go.RowKit Go.Shelf
set_option linter.unusedVariables false
set_option linter.unusedSimpArgs false

/-- A raw assignment. -/
structure Raw3 where
  a : Nat
  b : Nat
  c : Nat
def raw0 : Raw3 := ⟨0, 0, 0⟩
/-- A value that reads as a row of raw assignments. -/
def Raws (w : World) (v : Value) (l : List Raw3) : Prop :=
  ((∃ a c, v = .slice a 0 c ∧ c ≤ maxLen) ∧ l = []) ∨
  ∃ g off cap, v = .slice (some ⟨g, off, none⟩) l.length cap ∧ l.length ≤ cap ∧ cap ≤ maxLen ∧ g < w.heap.size ∧ ∀ i, i < l.length →
    w.cell? ⟨g, off + i * 3, none⟩ = some (.int .u8 ((l.getD i raw0).a : Nat)) ∧ w.cell? ⟨g, off + i * 3 + 1, none⟩ = some (.int .u8 ((l.getD i raw0).b : Nat)) ∧ w.cell? ⟨g, off + i * 3 + 2, none⟩ = some (.int .u8 ((l.getD i raw0).c : Nat)) ∧
      (l.getD i raw0).a < 256 ∧ (l.getD i raw0).b < 256 ∧ (l.getD i raw0).c < 256
theorem Raws.form {w : World} {v : Value} {l : List Raw3} (h : Raws w v l) : ∃ a c, v = .slice a l.length c ∧ l.length ≤ c ∧ c ≤ maxLen := by
  rcases h with ⟨⟨a, c, rfl, hc⟩, rfl⟩ | ⟨g, off, cap, rfl, h1, h2, _⟩
  · exact ⟨_, _, rfl, Nat.zero_le _, hc⟩
  · exact ⟨_, _, rfl, h1, h2⟩
theorem Raws.kept {a b : World} {v : Value} {l : List Raw3} (h : Raws a v l) (hk : Kept (fun _ => False) a b) : Raws b v l := by
  rcases h with h | ⟨g, off, cap, rfl, h1, h2, h3, h4⟩
  · exact Or.inl h
  · refine Or.inr ⟨g, off, cap, rfl, h1, h2, Nat.lt_of_lt_of_le h3 hk.size, fun i hi => ?_⟩
    obtain ⟨c0, c1, c2, c3⟩ := h4 i hi
    exact ⟨(hk.cell h3 (fun h => h)).trans c0, (hk.cell h3 (fun h => h)).trans c1, (hk.cell h3 (fun h => h)).trans c2, c3⟩
theorem Raws.at {w : World} {a : Option Addr} {n c k : Nat} {l : List Raw3} (h : Raws w (.slice a n c) l) (hk : k < l.length) :
    ∃ g off, a = some ⟨g, off, none⟩ ∧ w.cell? ⟨g, off + k * 3, none⟩ = some (.int .u8 ((l.getD k raw0).a : Nat)) ∧ w.cell? ⟨g, off + k * 3 + 1, none⟩ = some (.int .u8 ((l.getD k raw0).b : Nat)) ∧ w.cell? ⟨g, off + k * 3 + 2, none⟩ = some (.int .u8 ((l.getD k raw0).c : Nat)) ∧
      (l.getD k raw0).a < 256 ∧ (l.getD k raw0).b < 256 ∧ (l.getD k raw0).c < 256 := by
  rcases h with ⟨_, rfl⟩ | ⟨g, off, cap, h, _, _, _, h4⟩
  · simp at hk
  · cases h
    exact ⟨g, off, rfl, h4 k hk⟩

def fitR (r : Raw3) : Ent := ⟨1 + (r.a % 5 : Nat), 1 + (r.b % 8 : Nat), (r.c % 20 : Nat)⟩
theorem fitR_err (r : Raw3) : asgErr (fitR r).u (fitR r).r (fitR r).t = 0 := by
  unfold asgErr fitR
  have h1 : r.a % 5 < 5 := Nat.mod_lt _ (by omega)
  have h2 : r.b % 8 < 8 := Nat.mod_lt _ (by omega)
  have h3 : r.c % 20 < 20 := Nat.mod_lt _ (by omega)
  simp only
  rw [if_neg (by omega), if_neg (by omega)]

set_option maxRecDepth 100000 in
set_option maxHeartbeats 1600000 in
theorem fit_any (r : Raw3) (w : World) (ha : r.a < 256) (hb : r.b < 256) (hc : r.c < 256) :
    Calls Tryd.prog 37 #[.agg #[.int .u8 (r.a : Nat), .int .u8 (r.b : Nat), .int .u8 (r.c : Nat)]] w fun e w' => e = .returned (entV (fitR r)) ∧ Kept (fun _ => False) w w' := by
  obtain ⟨a, b, c⟩ := r
  simp only at ha hb hc ⊢
  unfold entV fitR
  simp only
  obtain ⟨p, hp⟩ : ∃ p, p = a % 5 := ⟨_, rfl⟩
  obtain ⟨q, hq⟩ : ∃ q, q = b % 8 := ⟨_, rfl⟩
  obtain ⟨s, hs⟩ : ∃ s, s = c % 20 := ⟨_, rfl⟩
  rw [← hp, ← hq, ← hs]
  have p5 : p < 5 := by omega
  have q8 : q < 8 := by omega
  have s20 : s < 20 := by omega
  have e1 : (a : Int).tmod 5 = (p : Int) ∧ (a : Int) % 5 = (p : Int) ∧ IntKind.u8.wrap (p : Int) = (p : Int) := ⟨by rw [Int.tmod_eq_emod_of_nonneg (by omega)]; omega, by omega, IntWalk.u8_in _ (by omega)⟩
  have e2 : (b : Int).tmod 8 = (q : Int) ∧ (b : Int) % 8 = (q : Int) ∧ IntKind.u8.wrap (q : Int) = (q : Int) := ⟨by rw [Int.tmod_eq_emod_of_nonneg (by omega)]; omega, by omega, IntWalk.u8_in _ (by omega)⟩
  have e3 : (c : Int).tmod 20 = (s : Int) ∧ (c : Int) % 20 = (s : Int) ∧ IntKind.u8.wrap (s : Int) = (s : Int) := ⟨by rw [Int.tmod_eq_emod_of_nonneg (by omega)]; omega, by omega, IntWalk.u8_in _ (by omega)⟩
  obtain ⟨a1, a2, a3⟩ := e1
  obtain ⟨b1, b2, b3⟩ := e2
  obtain ⟨c1, c2, c3⟩ := e3
  clear hp hq hs
  go_enter Tryd.func37, Tryd.ntmps37
  go_wp2_with fail
  refine bodyPost_ret (v := .agg #[.int .i64 (1 + (p : Int)), .int .i64 (1 + (q : Int)), .int .i64 (s : Int)]) (by simp [results, Tryd.results37, go_sem]) rfl ?_
  exact ⟨rfl, (Kept.alloc (fun _ => False) _ _).then (Kept.alloc _ _ _)⟩
end Go.Proofs.YtccanbjnbmihgaaDoor
/-
  arbacref12.Make, arbaclaw12.Make: the book that raw assignments stand for, and the specification's.
-/
namespace Go.Proofs.YtccanbjnbmihgaaDoor
open Go.RowKit Go.Shelf
set_option linter.unusedVariables false
set_option linter.unusedSimpArgs false

def mkE (rs : List Raw3) : List Ent := rs.foldl (fun L r => asgE L (fitR r)) []
def mkH (rs : List Raw3) : Nat → List Ent := rs.foldl (fun H r => upd H (1 + r.a % 5) (putR (H (1 + r.a % 5)) (fitR r))) (fun _ => [])
theorem takeR (l : List Raw3) (k : Nat) (hk : k < l.length) : l.take (k + 1) = l.take k ++ [l.getD k raw0] := by rw [List.take_add_one]; simp [List.getD, hk]
theorem mkE_snoc (l : List Raw3) (r : Raw3) : mkE (l ++ [r]) = asgE (mkE l) (fitR r) := by unfold mkE; rw [List.foldl_append]; rfl
theorem mkH_snoc (l : List Raw3) (r : Raw3) : mkH (l ++ [r]) = upd (mkH l) (1 + r.a % 5) (putR (mkH l (1 + r.a % 5)) (fitR r)) := by unfold mkH; rw [List.foldl_append]; rfl
theorem fitR_bounds (r : Raw3) : (fitR r).u = ((1 + r.a % 5 : Nat) : Int) ∧ 1 ≤ 1 + r.a % 5 ∧ 1 + r.a % 5 ≤ 5 ∧ 1 ≤ (fitR r).r ∧ (fitR r).r ≤ 8 ∧ 0 ≤ (fitR r).t ∧ (fitR r).t < 20 := by
  unfold fitR
  have h1 : r.a % 5 < 5 := Nat.mod_lt _ (by omega)
  have h2 : r.b % 8 < 8 := Nat.mod_lt _ (by omega)
  have h3 : r.c % 20 < 20 := Nat.mod_lt _ (by omega)
  simp only
  omega
theorem mkH_rows (l : List Raw3) : Rows2 (mkH l) ∧ allE (mkH l) = mkE l := by
  have key : ∀ (l : List Raw3) (H : Nat → List Ent) (L : List Ent), Rows2 H → allE H = L →
      Rows2 (l.foldl (fun H r => upd H (1 + r.a % 5) (putR (H (1 + r.a % 5)) (fitR r))) H) ∧ allE (l.foldl (fun H r => upd H (1 + r.a % 5) (putR (H (1 + r.a % 5)) (fitR r))) H) = l.foldl (fun L r => asgE L (fitR r)) L := by
    intro l
    induction l with
    | nil => intro H L h1 h2; exact ⟨h1, h2⟩
    | cons r t ih =>
      intro H L h1 h2
      obtain ⟨b1, b2, b3, b4, b5, b6, b7⟩ := fitR_bounds r
      rw [List.foldl_cons, List.foldl_cons]
      refine ih _ _ (h1.put (by omega) b2 b1 ⟨b4, by omega⟩ ⟨b6, by omega⟩) ?_
      rw [allE_put h1 _ _ (by omega) b1, h2]
  exact key l _ _ Rows2.nil allE_nil
theorem insE_len2 (x : Ent) (l : List Ent) : (insE x l).length = l.length + 1 := insE_len x l
theorem mkE_len (l : List Raw3) : (mkE l).length ≤ l.length := by
  have key : ∀ (l : List Raw3) (L : List Ent), (l.foldl (fun L r => asgE L (fitR r)) L).length ≤ L.length + l.length := by
    intro l
    induction l with
    | nil => intro L; simp
    | cons r t ih =>
      intro L
      rw [List.foldl_cons, List.length_cons]
      have h1 := ih (asgE L (fitR r))
      have h2 : (asgE L (fitR r)).length ≤ L.length + 1 := by
        unfold asgE
        rw [insE_len]
        have := List.length_filter_le (notE (fitR r).u (fitR r).r) L
        omega
      omega
  have := key l []
  unfold mkE
  simpa using this

set_option maxRecDepth 100000 in
set_option maxHeartbeats 3200000 in
theorem rmake_any (w : World) (v : Value) (rs : List Raw3) (h : Raws w v rs) :
    Calls Tryd.prog 43 #[v] w fun e w' => ∃ v', e = .returned v' ∧ Ents w' v' (mkE (rs.take 16)) ∧ Kept (fun _ => False) w w' := by
  obtain ⟨a, c, rfl, h1, h2⟩ := h.form
  have HE := Lib.hid h
  obtain ⟨N, hN⟩ : ∃ N, N = rs.length := ⟨_, rfl⟩
  rw [← hN] at h1 HE ⊢
  have HN := Lib.hid hN
  unfold maxLen at h2
  clear h hN
  go_enter Tryd.func43, Tryd.ntmps43
  go_wp2_with fail
  go_loopw [3, 8] (fun ov iv wr => ∃ k : Nat, k ≤ N ∧ k ≤ 16 ∧ iv = .int .i64 k ∧ Hid (Ents wr ov (mkE (rs.take k))) ∧ Hid (Kept (fun _ => False) w wr)) (fun _ iv _ => N - (intOf iv).toNat)
  case atStart => exact ⟨0, by omega, by omega, rfl, Lib.hid (Or.inl ⟨rfl, rfl⟩), Lib.hid (Kept.refl _ _)⟩
  case round =>
    obtain ⟨k, hk, hk16, rfl, ho, hkw⟩ := hrel
    by_cases hlt : k < N
    · have l1 : (k : Int) < (N : Int) := by omega
      have l0 : (0 : Int) ≤ (k : Int) := by omega
      obtain ⟨g, off, rfl, c0, c1, c2, r1, r2, r3⟩ := (HE.out.kept hkw.out).at (k := k) (by have := HN.out; omega)
      have HS := Lib.hid (mkE_snoc (rs.take k) (rs.getD k raw0))
      have HT := Lib.hid (takeR rs k (by have := HN.out; omega))
      have hml : (mkE (rs.take k)).length ≤ 16 := Nat.le_trans (mkE_len _) (by rw [List.length_take]; omega)
      generalize rs.getD k raw0 = r at c0 c1 c2 r1 r2 r3 HS HT
      have HFt := Lib.hid (fun W => fit_any r W r1 r2 r3)
      have HFe := Lib.hid (fitR_err r)
      obtain ⟨ra, rb, rc⟩ := r
      simp only at c0 c1 c2 r1 r2 r3
      by_cases h16 : k = 16
      · subst h16
        have HR := Lib.hid ho.out
        have HK3 : Hid (Kept (fun _ => False) w (wr.alloc (.cells #[.int .u8 (ra : Int), .int .u8 (rb : Int), .int .u8 (rc : Int)] 70))) := Lib.hid (hkw.out.then (Kept.alloc _ _ _))
        go_wp2_with fail
        go_ret
        exact ⟨_, rfl, ho.out.kept (Kept.alloc (fun _ => False) _ _) (fun _ _ h => h), HK3.out⟩
      · have h16b : ¬ ((k : Int) = 16) := by omega
        have hk2 : k ≤ 15 := by omega
        have HE2 := Lib.hid (ho.out.kept (Kept.alloc (fun _ => False) wr (.cells #[.int .u8 (ra : Int), .int .u8 (rb : Int), .int .u8 (rc : Int)] 70)) (fun _ _ h => h))
        have HK2 := Lib.hid (hkw.out.then (Kept.alloc (fun _ => False) wr (.cells #[.int .u8 (ra : Int), .int .u8 (rb : Int), .int .u8 (rc : Int)] 70)))
        have HML := Lib.hid hml
        clear ho hml
        go_wp2_with (first
          | (go_at_call 37; refine (HFt.out _).mono ?_; rintro e w3 ⟨rfl, k3⟩
             have HE3 := Lib.hid (HE2.out.kept k3 (fun _ _ h => h)); have HK3 := Lib.hid (HK2.out.then k3)
             clear k3)
          | (go_at_call 20; refine (rassign_any w3 _ _ _ _ _ HE3.out (by have := HML.out; omega) HFe.out).mono ?_; rintro e w4 ⟨v4, rfl, o4, k4⟩
             have HE4 : Hid (Ents w4 v4 (mkE (rs.take (k + 1)))) := Lib.hid (by rw [HT.out, HS.out]; exact o4.ents)
             have HK4 := Lib.hid (HK3.out.then k4)
             clear o4 k4))
        go_roundw
        case rel => first | exact ⟨k + 1, by omega, by omega, by go_num, HE4, HK4⟩ | ((repeat apply Exists.intro); exact ⟨⟨k + 1, by omega, by omega, by go_num, HE4, HK4⟩, rfl⟩)
        case measure => simp [intOf]; omega
    · obtain rfl : k = N := by omega
      have hall : rs.take k = rs.take 16 := by rw [List.take_of_length_le (by have := HN.out; omega), List.take_of_length_le (by have := HN.out; omega)]
      rw [hall] at ho
      clear hall
      go_wp2_with fail
      go_ret
      exact ⟨_, rfl, ho.out, hkw.out⟩

set_option maxRecDepth 100000 in
set_option maxHeartbeats 3200000 in
theorem lmake_any (w : World) (v : Value) (rs : List Raw3) (h : Raws w v rs) :
    Calls Tryd.prog 22 #[v] w fun e w' => ∃ v' l', e = .returned (.tuple #[v', l']) ∧ BookV w' v' 16 (mkH (rs.take 16)) ∧ Ents w' l' (mkE (rs.take 16)) ∧ Kept (fun _ => False) w w' := by
  obtain ⟨a, c, rfl, h1, h2⟩ := h.form
  have HM : Hid (∀ W, Kept (fun _ => False) w W → Calls Tryd.prog 43 #[.slice a rs.length c] W fun e w' => ∃ v', e = .returned v' ∧ Ents w' v' (mkE (rs.take 16)) ∧ Kept (fun _ => False) W w') := Lib.hid fun W kw => rmake_any W _ rs (h.kept kw)
  have HE := Lib.hid h
  obtain ⟨N, hN⟩ : ∃ N, N = rs.length := ⟨_, rfl⟩
  rw [← hN] at h1 HE HM ⊢
  have HN := Lib.hid hN
  unfold maxLen at h2
  clear h hN
  go_enter Tryd.func22, Tryd.ntmps22
  go_wp2_with fail
  refine (mnew_any w).mono ?_
  rintro e w1 ⟨v1, rfl, b1, k1⟩
  have B1 := Lib.hid b1; have K1 := Lib.hid k1
  clear b1 k1
  go_wp2_with fail
  go_loopw [4, 13] (fun bv iv wr => ∃ k : Nat, k ≤ N ∧ k ≤ 16 ∧ iv = .int .i64 k ∧ Hid (BookV wr bv k (mkH (rs.take k))) ∧ Hid (Kept (fun _ => False) w wr)) (fun _ iv _ => N - (intOf iv).toNat)
  case atStart => exact ⟨0, by omega, by omega, rfl, B1, K1⟩
  case round =>
    obtain ⟨k, hk, hk16, rfl, ho, hkw⟩ := hrel
    by_cases hlt : k < N
    · have l1 : (k : Int) < (N : Int) := by omega
      have l0 : (0 : Int) ≤ (k : Int) := by omega
      obtain ⟨g, off, rfl, c0, c1, c2, r1, r2, r3⟩ := (HE.out.kept hkw.out).at (k := k) (by have := HN.out; omega)
      have HS := Lib.hid (mkH_snoc (rs.take k) (rs.getD k raw0))
      have HT := Lib.hid (takeR rs k (by have := HN.out; omega))
      generalize rs.getD k raw0 = r at c0 c1 c2 r1 r2 r3 HS HT
      obtain ⟨f1, f2, f3, f4, f5, f6, f7⟩ := fitR_bounds r
      obtain ⟨un, hun⟩ : ∃ un, un = 1 + r.a % 5 := ⟨_, rfl⟩
      obtain ⟨rr, hrr⟩ : ∃ rr, rr = (fitR r).r := ⟨_, rfl⟩
      obtain ⟨tt, htt⟩ : ∃ tt, tt = (fitR r).t := ⟨_, rfl⟩
      rw [← hun] at f1 f2 f3
      rw [← hrr] at f4 f5
      rw [← htt] at f6 f7
      have hfe : fitR r = ⟨(un : Int), rr, tt⟩ := by rw [← f1, hrr, htt]
      have hft := fun W => fit_any r W r1 r2 r3
      rw [hfe] at hft
      unfold entV at hft
      simp only at hft
      have HFt := Lib.hid hft
      have hs := HS.out
      rw [hfe, ← hun] at hs
      replace HS := Lib.hid hs
      clear hft hs hfe hrr htt hun f1
      obtain ⟨ra, rb, rc⟩ := r
      simp only at c0 c1 c2 r1 r2 r3 HFt
      by_cases h16 : k = 16
      · subst h16
        have HK3 : Hid (Kept (fun _ => False) w (wr.alloc (.cells #[.int .u8 (ra : Int), .int .u8 (rb : Int), .int .u8 (rc : Int)] 70))) := Lib.hid (hkw.out.then (Kept.alloc _ _ _))
        have HB3 := Lib.hid (ho.out.kept (Kept.alloc (fun _ => False) wr (.cells #[.int .u8 (ra : Int), .int .u8 (rb : Int), .int .u8 (rc : Int)] 70)))
        go_wp2_with (go_at_call 43; refine (HM.out _ HK3.out).mono ?_; rintro e w5 ⟨v5, rfl, e5, k5⟩
                     have B5 := Lib.hid (HB3.out.kept k5); have K5 := Lib.hid (HK3.out.then k5); have E5 := Lib.hid e5
                     clear e5 k5)
        go_ret2
        exact ⟨_, _, rfl, B5.out, E5.out, K5.out⟩
      · have h16b : ¬ ((k : Int) = 16) := by omega
        have hk2 : k ≤ 15 := by omega
        have HB2 := Lib.hid (ho.out.kept (Kept.alloc (fun _ => False) wr (.cells #[.int .u8 (ra : Int), .int .u8 (rb : Int), .int .u8 (rc : Int)] 70)))
        have HK2 := Lib.hid (hkw.out.then (Kept.alloc (fun _ => False) wr (.cells #[.int .u8 (ra : Int), .int .u8 (rb : Int), .int .u8 (rc : Int)] 70)))
        clear ho
        go_wp2_with (first
          | (go_at_call 37; refine (HFt.out _).mono ?_; rintro e w3 ⟨rfl, k3⟩
             have HB3 := Lib.hid (HB2.out.kept (k3.then (Kept.alloc _ _ (.cells #[.int .i64 (un : Int), .int .i64 rr, .int .i64 tt] 31)))); have HK3 := Lib.hid (HK2.out.then (k3.then (Kept.alloc _ _ (.cells #[.int .i64 (un : Int), .int .i64 rr, .int .i64 tt] 31))))
             clear k3)
          | (go_at_call 19; refine (assign_any _ _ k _ un rr tt HB3.out (by omega) (by omega) (by omega) (by omega) (by omega) (by omega) (by omega)).mono ?_; rintro e w4 ⟨v4, rfl, b4, k4⟩
             have HB4 : Hid (BookV w4 v4 (k + 1) (mkH (rs.take (k + 1)))) := Lib.hid (by rw [HT.out, HS.out]; exact b4)
             have HK4 := Lib.hid (HK3.out.then k4)
             clear b4 k4))
        go_roundw
        case rel => first | exact ⟨k + 1, by omega, by omega, by go_num, HB4, HK4⟩ | ((repeat apply Exists.intro); exact ⟨⟨k + 1, by omega, by omega, by go_num, HB4, HK4⟩, rfl⟩)
        case measure => simp [intOf]; omega
    · obtain rfl : k = N := by omega
      have hall : rs.take k = rs.take 16 := by rw [List.take_of_length_le (by have := HN.out; omega), List.take_of_length_le (by have := HN.out; omega)]
      rw [hall] at ho
      clear hall
      have HB3 := Lib.hid (ho.out.more hk16)
      clear ho
      go_wp2_with (go_at_call 43; refine (HM.out _ hkw.out).mono ?_; rintro e w5 ⟨v5, rfl, e5, k5⟩
                   have B5 := Lib.hid (HB3.out.kept k5); have K5 := Lib.hid (hkw.out.then k5); have E5 := Lib.hid e5
                   clear e5 k5)
      go_ret2
      exact ⟨_, _, rfl, B5.out, E5.out, K5.out⟩
end Go.Proofs.YtccanbjnbmihgaaDoor
/-
  arbaclaw12.is (where it holds); slices.Equal of entries; Book.Equal.
-/
namespace Go.Proofs.YtccanbjnbmihgaaDoor
open Go.RowKit Go.Shelf
set_option linter.unusedVariables false
set_option linter.unusedSimpArgs false

instance : DecidableEq Ent := fun a b =>
  if h : a.u = b.u ∧ a.r = b.r ∧ a.t = b.t then isTrue (by cases a; cases b; simp_all) else isFalse (fun e => h (by rw [e]; exact ⟨rfl, rfl, rfl⟩))

set_option maxRecDepth 100000 in
set_option maxHeartbeats 1600000 in
theorem is1_any (x : Ent) (w : World) : Calls Tryd.prog 56 #[entV x, entV x] w fun e w' => e = .returned (.bool true) ∧ Kept (fun _ => False) w w' := by
  unfold entV
  obtain ⟨xu, xr, xt⟩ := x
  have HK := Lib.hid ((Kept.alloc (fun _ => False) w (.cells #[.int .i64 xu, .int .i64 xr, .int .i64 xt] 87)).then (Kept.alloc _ _ (.cells #[.int .i64 xu, .int .i64 xr, .int .i64 xt] 31)))
  go_enter Tryd.func56, Tryd.ntmps56
  go_wp2_with fail
  go_ret
  exact ⟨rfl, HK.out⟩

set_option maxRecDepth 100000 in
set_option maxHeartbeats 3200000 in
theorem equalF_any (w : World) (v u : Value) (l : List Ent) (hv : Ents w v l) (hu : Ents w u l) :
    Calls Tryd.prog 55 #[v, u, .func (.func 56) #[] #[]] w fun e w' => e = .returned (.bool true) ∧ Kept (fun _ => False) w w' := by
  obtain ⟨a, c, rfl, h1, h2⟩ := hv.form
  obtain ⟨a2, c2, rfl, h3, h4⟩ := hu.form
  have HV := Lib.hid hv; have HU := Lib.hid hu
  obtain ⟨N, hN⟩ : ∃ N, N = l.length := ⟨_, rfl⟩
  rw [← hN] at HV HU h1 h3 ⊢
  have HN := Lib.hid hN
  unfold maxLen at h2 h4
  clear hv hu hN
  go_enter Tryd.func55, Tryd.ntmps55
  go_wp2_with fail
  go_loopw [17] (fun iv wr => ∃ k : Nat, k ≤ N ∧ iv = .int .i64 k ∧ Hid (Kept (fun _ => False) w wr)) (fun iv _ => N - (intOf iv).toNat)
  case atStart => exact ⟨0, by omega, rfl, Lib.hid (Kept.refl _ _)⟩
  case round =>
    obtain ⟨k, hk, rfl, hkw⟩ := hrel
    by_cases hlt : k < N
    · have l1 : (k : Int) < (N : Int) := by omega
      have l0 : (0 : Int) ≤ (k : Int) := by omega
      obtain ⟨g, off, rfl, hg, hc⟩ := (HV.out.kept hkw.out (fun _ _ h => h)).at (k := k) (by have := HN.out; omega)
      obtain ⟨g2, off2, rfl, hg2, hc2⟩ := (HU.out.kept (hkw.out.then (Kept.alloc _ _ (.cells #[.int .i64 (l.getD k ent0).u, .int .i64 (l.getD k ent0).r, .int .i64 (l.getD k ent0).t] 87))) (fun _ _ h => h)).at (k := k) (by have := HN.out; omega)
      generalize l.getD k ent0 = x at hc hc2 hg2
      have HI := Lib.hid (is1_any x)
      have HKx := Lib.hid ((hkw.out.then (Kept.alloc _ _ (.cells #[.int .i64 x.u, .int .i64 x.r, .int .i64 x.t] 87))).then (Kept.alloc _ _ (.cells #[.int .i64 x.u, .int .i64 x.r, .int .i64 x.t] 31)))
      obtain ⟨xu, xr, xt⟩ := x
      obtain ⟨c0, c1, c2⟩ := hc
      obtain ⟨d0, d1, d2⟩ := hc2
      unfold entV at HI
      simp only at c0 c1 c2 d0 d1 d2 HI HKx
      clear hg hg2
      go_wp2_with (first
        | (go_at_call 56; refine (HI.out _).mono ?_; rintro e w3 ⟨rfl, k3⟩
           have HK3 := Lib.hid (HKx.out.then k3)
           clear k3))
      go_roundw
      case rel => first | exact ⟨k + 1, by omega, by go_num, HK3⟩ | ((repeat apply Exists.intro); exact ⟨⟨k + 1, by omega, by go_num, HK3⟩, rfl⟩)
      case measure => simp [intOf]; omega
    · obtain rfl : k = N := by omega
      go_wp2_with fail
      go_ret
      exact ⟨rfl, hkw.out⟩

set_option maxRecDepth 100000 in
set_option maxHeartbeats 3200000 in
theorem lis_any (w : World) (v lv : Value) (M : Nat) (H : Nat → List Ent) (h : BookV w v M H) (hM : M ≤ 1000) (hl : Ents w lv (allE H)) :
    Calls Tryd.prog 21 #[v, lv] w fun e w' => e = .returned (.bool true) ∧ Kept (fun _ => False) w w' := by
  have HLen := Lib.hid (mlen_any w v M H h hM)
  have HEn := Lib.hid (entries_any w v M H h hM)
  have HL := Lib.hid hl
  obtain ⟨bb, hv, rfl, -, -⟩ := h
  obtain ⟨a, c, rfl, _, _⟩ := hl.form
  generalize allE H = l at *
  clear hl
  go_enter Tryd.func21, Tryd.ntmps21
  go_wp2_with (first
    | (go_at_call 36; with_reducible refine HLen.out.mono ?_; rintro e w1 ⟨rfl, rfl⟩)
    | (go_at_call 44; with_reducible refine HEn.out.mono ?_; rintro e w2 ⟨v2, rfl, o2, k2⟩
       have O2 := Lib.hid o2.ents; have K2 := Lib.hid k2
       clear o2 k2)
    | (go_at_call 55; refine (equalF_any w2 _ _ l O2.out (HL.out.kept K2.out (fun _ _ h => h))).mono ?_; rintro e w3 ⟨rfl, k3⟩
       have K3 := Lib.hid (K2.out.then k3)
       clear k3))
  go_ret
  exact ⟨rfl, K3.out⟩

set_option maxRecDepth 100000 in
set_option maxHeartbeats 3200000 in
theorem equalM_any (w : World) (v u : Value) (l m : List Ent) (hv : Ents w v l) (hu : Ents w u m) :
    Calls Tryd.prog 68 #[v, u] w fun e w' => e = .returned (.bool (decide (l = m))) ∧ Kept (fun _ => False) w w' := by
  obtain ⟨a, c, rfl, h1, h2⟩ := hv.form
  obtain ⟨a2, c2, rfl, h3, h4⟩ := hu.form
  have HV := Lib.hid hv; have HU := Lib.hid hu
  obtain ⟨qb, hqb⟩ : ∃ qb, qb = decide (l = m) := ⟨_, rfl⟩
  rw [← hqb]
  have HQb := Lib.hid hqb
  clear hqb
  by_cases hlen : l.length = m.length
  · obtain ⟨N, hN⟩ : ∃ N, N = l.length := ⟨_, rfl⟩
    rw [← hlen, ← hN] at HU h3 ⊢
    rw [← hN] at HV h1
    have HN := Lib.hid hN; have HNm := Lib.hid (hN.trans hlen)
    unfold maxLen at h2 h4
    clear hv hu hN hlen
    go_enter Tryd.func68, Tryd.ntmps68
    go_wp2_with fail
    go_loopw [13] (fun iv wr => ∃ k : Nat, k ≤ N ∧ iv = .int .i64 k ∧ Hid (∀ j, j < k → l.getD j ent0 = m.getD j ent0) ∧ Hid (Kept (fun _ => False) w wr)) (fun iv _ => N - (intOf iv).toNat)
    case atStart => exact ⟨0, by omega, rfl, Lib.hid (fun j hj => absurd hj (by omega)), Lib.hid (Kept.refl _ _)⟩
    case round =>
      obtain ⟨k, hk, rfl, heq, hkw⟩ := hrel
      by_cases hlt : k < N
      · have l1 : (k : Int) < (N : Int) := by omega
        have l0 : (0 : Int) ≤ (k : Int) := by omega
        obtain ⟨g, off, rfl, hg, hc⟩ := (HV.out.kept hkw.out (fun _ _ h => h)).at (k := k) (by have := HN.out; omega)
        obtain ⟨g2, off2, rfl, hg2, hc2⟩ := (HU.out.kept hkw.out (fun _ _ h => h)).at (k := k) (by have := HNm.out; omega)
        have HK := Lib.hid (fun n => hkw.out.drewN n)
        by_cases hxy : l.getD k ent0 = m.getD k ent0
        · have HQ : Hid (∀ j, j < k + 1 → l.getD j ent0 = m.getD j ent0) := Lib.hid fun j hj => by
            rcases Nat.lt_or_ge j k with h | h
            · exact heq.out j h
            · obtain rfl : j = k := by omega
              exact hxy
          rw [← hxy] at hc2
          generalize l.getD k ent0 = x at hc hc2
          obtain ⟨xu, xr, xt⟩ := x
          obtain ⟨c0, c1, c2⟩ := hc
          obtain ⟨d0, d1, d2⟩ := hc2
          simp only at c0 c1 c2 d0 d1 d2
          clear hg hg2 hxy heq
          go_wp2_with fail
          go_quiet (fail)
          have HE := Lib.hid (HK.out nq)
          clear c0 c1 c2 d0 d1 d2 HK
          generalize wr.drewN nq = wd at *
          go_wp2_with fail
          go_roundw
          case rel => first | exact ⟨k + 1, by omega, by go_num, HQ, HE⟩ | ((repeat apply Exists.intro); exact ⟨⟨k + 1, by omega, by go_num, HQ, HE⟩, rfl⟩)
          case measure => simp [intOf]; omega
        · have hne : decide (l = m) = false := decide_eq_false (fun e => hxy (by rw [e]))
          obtain rfl : qb = false := HQb.out.trans hne
          generalize l.getD k ent0 = x at hc hxy
          generalize m.getD k ent0 = y at hc2 hxy
          obtain ⟨xu, xr, xt⟩ := x
          obtain ⟨yu, yr, yt⟩ := y
          obtain ⟨c0, c1, c2⟩ := hc
          obtain ⟨d0, d1, d2⟩ := hc2
          simp only at c0 c1 c2 d0 d1 d2
          have hcase : ¬ xu = yu ∨ (xu = yu ∧ ¬ xr = yr) ∨ (xu = yu ∧ xr = yr ∧ ¬ xt = yt) := by
            by_cases e1 : xu = yu
            · by_cases e2 : xr = yr
              · exact Or.inr (Or.inr ⟨e1, e2, fun e3 => hxy (by rw [e1, e2, e3])⟩)
              · exact Or.inr (Or.inl ⟨e1, e2⟩)
            · exact Or.inl e1
          clear hg hg2 hxy heq hne
          rcases hcase with e1 | ⟨rfl, e2⟩ | ⟨rfl, rfl, e3⟩
          all_goals
            go_wp2_with fail
            go_quiet (fail)
            have HE := Lib.hid (HK.out nq)
            clear c0 c1 c2 d0 d1 d2 HK
            generalize wr.drewN nq = wd at *
            go_wp2_with fail
            go_ret
            exact ⟨rfl, HE.out⟩
      · obtain rfl : k = N := by omega
        have hyes : decide (l = m) = true := decide_eq_true (List.ext_getElem (by rw [← HN.out, ← HNm.out]) (fun j hj1 hj2 => by
          have := heq.out j (by have := HN.out; omega)
          simpa [List.getD, hj1, hj2] using this))
        obtain rfl : qb = true := HQb.out.trans hyes
        clear hyes
        go_wp2_with fail
        go_ret
        exact ⟨rfl, hkw.out⟩
  · have hne : decide (l = m) = false := decide_eq_false (fun e => hlen (by rw [e]))
    obtain rfl : qb = false := HQb.out.trans hne
    have hl2 : ¬ ((l.length : Int) = (m.length : Int)) := by omega
    clear hv hu hne hlen
    go_enter Tryd.func68, Tryd.ntmps68
    go_wp2_with fail
    go_ret
    exact ⟨rfl, Kept.refl _ _⟩

set_option maxRecDepth 100000 in
set_option maxHeartbeats 3200000 in
theorem equalR_any (w : World) (v u : Value) (l m : List Ent) (hv : Ents w v l) (hu : Ents w u m) :
    Calls Tryd.prog 38 #[v, u] w fun e w' => e = .returned (.bool (decide (l = m))) ∧ Kept (fun _ => False) w w' := by
  obtain ⟨a, c, rfl, h1, h2⟩ := hv.form
  obtain ⟨a2, c2, rfl, h3, h4⟩ := hu.form
  have HV := Lib.hid hv; have HU := Lib.hid hu
  obtain ⟨qb, hqb⟩ : ∃ qb, qb = decide (l = m) := ⟨_, rfl⟩
  rw [← hqb]
  have HQb := Lib.hid hqb
  clear hqb
  by_cases hlen : l.length = m.length
  · obtain ⟨N, hN⟩ : ∃ N, N = l.length := ⟨_, rfl⟩
    rw [← hlen, ← hN] at HU h3 ⊢
    rw [← hN] at HV h1
    have HN := Lib.hid hN; have HNm := Lib.hid (hN.trans hlen)
    unfold maxLen at h2 h4
    clear hv hu hN hlen
    go_enter Tryd.func38, Tryd.ntmps38
    go_wp2_with fail
    go_loopw [13] (fun iv wr => ∃ k : Nat, k ≤ N ∧ iv = .int .i64 k ∧ Hid (∀ j, j < k → l.getD j ent0 = m.getD j ent0) ∧ Hid (Kept (fun _ => False) w wr)) (fun iv _ => N - (intOf iv).toNat)
    case atStart => exact ⟨0, by omega, rfl, Lib.hid (fun j hj => absurd hj (by omega)), Lib.hid (Kept.refl _ _)⟩
    case round =>
      obtain ⟨k, hk, rfl, heq, hkw⟩ := hrel
      by_cases hlt : k < N
      · have l1 : (k : Int) < (N : Int) := by omega
        have l0 : (0 : Int) ≤ (k : Int) := by omega
        obtain ⟨g, off, rfl, hg, hc⟩ := (HV.out.kept hkw.out (fun _ _ h => h)).at (k := k) (by have := HN.out; omega)
        obtain ⟨g2, off2, rfl, hg2, hc2⟩ := (HU.out.kept hkw.out (fun _ _ h => h)).at (k := k) (by have := HNm.out; omega)
        have HK := Lib.hid (fun n => hkw.out.drewN n)
        by_cases hxy : l.getD k ent0 = m.getD k ent0
        · have HQ : Hid (∀ j, j < k + 1 → l.getD j ent0 = m.getD j ent0) := Lib.hid fun j hj => by
            rcases Nat.lt_or_ge j k with h | h
            · exact heq.out j h
            · obtain rfl : j = k := by omega
              exact hxy
          rw [← hxy] at hc2
          generalize l.getD k ent0 = x at hc hc2
          obtain ⟨xu, xr, xt⟩ := x
          obtain ⟨c0, c1, c2⟩ := hc
          obtain ⟨d0, d1, d2⟩ := hc2
          simp only at c0 c1 c2 d0 d1 d2
          clear hg hg2 hxy heq
          go_wp2_with fail
          go_quiet (fail)
          have HE := Lib.hid (HK.out nq)
          clear c0 c1 c2 d0 d1 d2 HK
          generalize wr.drewN nq = wd at *
          go_wp2_with fail
          go_roundw
          case rel => first | exact ⟨k + 1, by omega, by go_num, HQ, HE⟩ | ((repeat apply Exists.intro); exact ⟨⟨k + 1, by omega, by go_num, HQ, HE⟩, rfl⟩)
          case measure => simp [intOf]; omega
        · have hne : decide (l = m) = false := decide_eq_false (fun e => hxy (by rw [e]))
          obtain rfl : qb = false := HQb.out.trans hne
          generalize l.getD k ent0 = x at hc hxy
          generalize m.getD k ent0 = y at hc2 hxy
          obtain ⟨xu, xr, xt⟩ := x
          obtain ⟨yu, yr, yt⟩ := y
          obtain ⟨c0, c1, c2⟩ := hc
          obtain ⟨d0, d1, d2⟩ := hc2
          simp only at c0 c1 c2 d0 d1 d2
          have hcase : ¬ xu = yu ∨ (xu = yu ∧ ¬ xr = yr) ∨ (xu = yu ∧ xr = yr ∧ ¬ xt = yt) := by
            by_cases e1 : xu = yu
            · by_cases e2 : xr = yr
              · exact Or.inr (Or.inr ⟨e1, e2, fun e3 => hxy (by rw [e1, e2, e3])⟩)
              · exact Or.inr (Or.inl ⟨e1, e2⟩)
            · exact Or.inl e1
          clear hg hg2 hxy heq hne
          rcases hcase with e1 | ⟨rfl, e2⟩ | ⟨rfl, rfl, e3⟩
          all_goals
            go_wp2_with fail
            go_quiet (fail)
            have HE := Lib.hid (HK.out nq)
            clear c0 c1 c2 d0 d1 d2 HK
            generalize wr.drewN nq = wd at *
            go_wp2_with fail
            go_ret
            exact ⟨rfl, HE.out⟩
      · obtain rfl : k = N := by omega
        have hyes : decide (l = m) = true := decide_eq_true (List.ext_getElem (by rw [← HN.out, ← HNm.out]) (fun j hj1 hj2 => by
          have := heq.out j (by have := HN.out; omega)
          simpa [List.getD, hj1, hj2] using this))
        obtain rfl : qb = true := HQb.out.trans hyes
        clear hyes
        go_wp2_with fail
        go_ret
        exact ⟨rfl, hkw.out⟩
  · have hne : decide (l = m) = false := decide_eq_false (fun e => hlen (by rw [e]))
    obtain rfl : qb = false := HQb.out.trans hne
    have hl2 : ¬ ((l.length : Int) = (m.length : Int)) := by omega
    clear hv hu hne hlen
    go_enter Tryd.func38, Tryd.ntmps38
    go_wp2_with fail
    go_ret
    exact ⟨rfl, Kept.refl _ _⟩

set_option maxRecDepth 100000 in
set_option maxHeartbeats 3200000 in
theorem mequal_any (w : World) (v u : Value) (M N : Nat) (H G : Nat → List Ent) (hv : BookV w v M H) (hu : BookV w u N G) (hM : M ≤ 1000) (hN : N ≤ 1000) :
    Calls Tryd.prog 35 #[v, u] w fun e w' => e = .returned (.bool (decide (allE H = allE G))) ∧ Kept (fun _ => False) w w' := by
  have HV := Lib.hid (entries_any w v M H hv hM)
  have HU := Lib.hid hu
  obtain ⟨b1, _, rfl, -, -⟩ := hv
  obtain ⟨b2, _, rfl, -, -⟩ := hu
  go_enter Tryd.func35, Tryd.ntmps35
  go_wp2_with fail
  refine HV.out.mono ?_
  rintro e w1 ⟨v1, rfl, o1, k1⟩
  have O1 := Lib.hid o1.ents; have K1 := Lib.hid k1
  clear o1 k1
  go_wp2_with fail
  refine (entries_any w1 _ N G (HU.out.kept K1.out) hN).mono ?_
  rintro e w2 ⟨v2, rfl, o2, k2⟩
  have O2 := Lib.hid o2.ents; have K2 := Lib.hid (K1.out.then k2)
  replace O1 := Lib.hid (O1.out.kept k2 (fun _ _ h => h))
  clear o2 k2
  go_wp2_with fail
  refine (equalM_any w2 _ _ (allE H) (allE G) O1.out O2.out).mono ?_
  rintro e w3 ⟨rfl, k3⟩
  have K3 := Lib.hid (K2.out.then k3)
  clear k3
  go_wp2_with fail
  go_ret
  exact ⟨rfl, K3.out⟩
set_option maxRecDepth 100000 in
set_option maxHeartbeats 3200000 in
theorem mequal_nil1 (w : World) (a : Addr) : Calls Tryd.prog 35 #[.pointer none, .pointer (some a)] w fun e w' => e = .returned (.bool false) ∧ w = w' := by
  go_enter Tryd.func35, Tryd.ntmps35
  go_wp2_with fail
  go_ret
  exact ⟨rfl, rfl⟩
set_option maxRecDepth 100000 in
set_option maxHeartbeats 3200000 in
theorem mequal_nil2 (w : World) (a : Addr) : Calls Tryd.prog 35 #[.pointer (some a), .pointer none] w fun e w' => e = .returned (.bool false) ∧ w = w' := by
  go_enter Tryd.func35, Tryd.ntmps35
  go_wp2_with fail
  go_ret
  exact ⟨rfl, rfl⟩
set_option maxRecDepth 100000 in
set_option maxHeartbeats 3200000 in
theorem mequal_nil3 (w : World) : Calls Tryd.prog 35 #[.pointer none, .pointer none] w fun e w' => e = .returned (.bool true) ∧ w = w' := by
  go_enter Tryd.func35, Tryd.ntmps35
  go_wp2_with fail
  go_ret
  exact ⟨rfl, rfl⟩
end Go.Proofs.YtccanbjnbmihgaaDoor
/-
  arbaclaw12.MembershipOrder: the walk.
-/
namespace Go.Proofs.YtccanbjnbmihgaaDoor
open Go.RowKit
set_option linter.unusedVariables false
set_option linter.unusedSimpArgs false

/-- All entries stand in the order. -/
theorem allE_sorted {H : Nat → List Ent} (h : Rows2 H) : (allE H).Pairwise (fun a b => bef a b = true) := by
  unfold allE
  rw [List.pairwise_flatMap]
  refine ⟨fun u hu => ?_, ?_⟩
  · have hu := List.mem_range.1 hu
    have h1 := asc_pair.1 (h.asc u hu)
    refine List.Pairwise.imp_of_mem (fun {a b} ha hb hab => ?_) h1
    have e1 := h.user u hu a ha
    have e2 := h.user u hu b hb
    unfold bef; simp; omega
  · rw [List.range_eq_range']
    refine List.Pairwise.imp_of_mem (fun {a b} ha hb hab x hx y hy => ?_) (List.pairwise_lt_range' (s := 0) (n := 257) (step := 1))
    have ha := List.mem_range'_1.1 ha
    have hb := List.mem_range'_1.1 hb
    have e1 := h.user a (by omega) x hx
    have e2 := h.user b (by omega) y hy
    unfold bef; simp; omega
theorem drop_getD (l : List Ent) (k : Nat) (hk : k < l.length) : l.drop k = l.getD k ent0 :: l.drop (k + 1) := by
  rw [List.drop_eq_getElem_cons hk]; simp [List.getD, hk]
/-- The entry ahead of greater ones. -/
theorem asg_drop {l : List Ent} (h : l.Pairwise (fun a b => bef a b = true)) (k : Nat) (hk : k < l.length) : asgE (l.drop (k + 1)) (l.getD k ent0) = l.drop k := by
  rw [drop_getD l k hk]
  have h2 : (l.drop k).Pairwise (fun a b => bef a b = true) := h.sublist (List.drop_sublist k l)
  rw [drop_getD l k hk, List.pairwise_cons] at h2
  generalize l.getD k ent0 = x at h2 ⊢
  generalize l.drop (k + 1) = t at h2 ⊢
  unfold asgE
  have e : t.filter (notE x.u x.r) = t := List.filter_eq_self.2 (fun y hy => by
    have := h2.1 y hy
    unfold bef at this
    have := of_decide_eq_true this
    unfold notE; simp; omega)
  rw [e, insE_head x t (fun y hy => h2.1 y hy)]
theorem user_one {H : Nat → List Ent} (h : Rows2 H) : ∀ x ∈ allE H, 1 ≤ x.u := fun x hx => by
  obtain ⟨u, hu, hx⟩ := (allE_mem x).1 hx
  have := h.user u hu x hx
  rcases Nat.eq_zero_or_pos u with h0 | h0
  · subst h0; rw [h.none] at hx; simp at hx
  · omega

set_option maxRecDepth 100000 in
set_option maxHeartbeats 3200000 in
theorem order_law (w : World) (v v' : Value) (rs ss : List Raw3) (h : Raws w v rs) (h' : Raws w v' ss) (hL : Lb2 w) :
    Calls Tryd.prog 8 #[v, v'] w fun e w' => e = .returned (.bool true) ∧ Kept (fun _ => False) w w' := by
  have HE := Lib.hid h; have HE' := Lib.hid h'; have HL := Lib.hid hL
  obtain ⟨va, vc, hform, _, _⟩ := h.form
  obtain ⟨va', vc', hform', _, _⟩ := h'.form
  obtain ⟨N, hN⟩ : ∃ N, N = rs.length := ⟨_, rfl⟩
  obtain ⟨N', hN'⟩ : ∃ N, N = ss.length := ⟨_, rfl⟩
  rw [← hN] at hform
  rw [← hN'] at hform'
  subst hform; subst hform'
  clear h h' hL hN hN'
  go_enter Tryd.func8, Tryd.ntmps8
  go_wp2_with fail
  refine (awake12_any w HL.out).mono ?_
  rintro e w1 ⟨rfl, k1⟩
  have K1 := Lib.hid k1; clear k1
  go_wp2_with fail
  refine (lmake_any w1 _ rs (HE.out.kept K1.out)).mono ?_
  rintro e w2 ⟨bv, tl, rfl, bb2, e2, k2⟩
  have K2 := Lib.hid (K1.out.then k2)
  obtain ⟨hRw, hAl⟩ := mkH_rows (rs.take 16)
  have hLen : (mkE (rs.take 16)).length ≤ 16 := Nat.le_trans (mkE_len _) (by rw [List.length_take]; omega)
  rw [← hAl] at e2 hLen
  generalize mkH (rs.take 16) = H at bb2 e2 hRw hLen
  have B2 := Lib.hid bb2; have E2 := Lib.hid e2; have HRw := Lib.hid hRw
  obtain ⟨pb, _, rfl, -, -⟩ := bb2
  obtain ⟨ta, tc, rfl, tc1, tc2⟩ := e2.form
  clear k2 K1 hAl e2 hRw
  go_wp2_with fail
  refine (lmake_any w2 _ ss (HE'.out.kept K2.out)).mono ?_
  rintro e w3 ⟨cv, ul, rfl, b3, e3, k3⟩
  have K3 := Lib.hid (K2.out.then k3)
  obtain ⟨hRw', hAl'⟩ := mkH_rows (ss.take 16)
  rw [← hAl'] at e3
  generalize mkH (ss.take 16) = G at b3 e3
  have B3 := Lib.hid b3; have E3 := Lib.hid e3
  obtain ⟨pc, _, rfl, -, -⟩ := b3
  obtain ⟨ua, uc, rfl, _, _⟩ := e3.form
  replace B2 := Lib.hid (B2.out.kept k3); replace E2 := Lib.hid (E2.out.kept k3 (fun _ _ h => h))
  clear k3 K2 hAl' e3 hRw'
  obtain ⟨T, hT⟩ : ∃ T, T = (allE H).length := ⟨_, rfl⟩
  rw [← hT] at E2 tc1 hLen ⊢
  have HT := Lib.hid hT
  unfold maxLen at tc2
  clear hT
  have hwT : IntKind.i64.wrap ((T : Int) - 1) = (T : Int) - 1 := by rw [IntKind.wrap_i64]; omega
  go_wp2_with fail
  refine (mnew_any w3).mono ?_
  rintro e w4 ⟨dv, rfl, b4, k4⟩
  have B4 := Lib.hid b4; have K4 := Lib.hid k4
  clear b4 k4
  go_wp2_with fail
  go_loopw [9, 10] (fun dv iv wr => ∃ j : Nat, j ≤ T ∧ iv = .int .i64 ((j : Int) - 1) ∧ Hid (∃ D, BookV wr dv (T - j) D ∧ allE D = (allE H).drop j) ∧ Hid (Kept (fun _ => False) w3 wr)) (fun _ iv _ => (intOf iv + 1).toNat)
  case atStart => exact ⟨T, Nat.le_refl _, rfl, Lib.hid ⟨_, by rw [Nat.sub_self]; exact B4.out, by rw [allE_nil, HT.out, List.drop_length]⟩, K4⟩
  case round =>
    obtain ⟨j, hj, rfl, hd, hkw⟩ := hrel
    obtain ⟨D, hbd, had⟩ := hd.out
    by_cases hlt : 1 ≤ j
    · obtain ⟨k, rfl⟩ : ∃ k, j = k + 1 := ⟨j - 1, by omega⟩
      have hkk : ((k + 1 : Nat) : Int) - 1 = (k : Int) := by omega
      rw [hkk]
      have l1 : (k : Int) < (T : Int) := by omega
      have l0 : (0 : Int) ≤ (k : Int) := by omega
      obtain ⟨g, off, rfl, hg, hc⟩ := (E2.out.kept hkw.out (fun _ _ h => h)).at (k := k) (by have := HT.out; omega)
      have hst := asg_drop (allE_sorted HRw.out) k (by have := HT.out; omega)
      have hf := fitE HRw.out _ (getD_memE (allE H) k (by have := HT.out; omega))
      have hf1 := user_one HRw.out _ (getD_memE (allE H) k (by have := HT.out; omega))
      rw [← had] at hst
      generalize (allE H).getD k ent0 = x at hc hst hf hf1
      obtain ⟨xu, xr, xt⟩ := x
      obtain ⟨c0, c1, c2⟩ := hc
      simp only at c0 c1 c2 hf hf1
      obtain ⟨un, rfl⟩ : ∃ n : Nat, xu = (n : Int) := ⟨xu.toNat, by omega⟩
      obtain ⟨f1, f2, f3, f4, f5, f6⟩ := hf
      have hbd2 := hbd
      obtain ⟨pd, hvd, hp, hb, hrd⟩ := hbd2
      subst hp
      have hall := allE_put hrd ⟨(un : Int), xr, xt⟩ un (by omega) rfl
      rw [hst] at hall
      have HAs : Hid (∀ W, Kept (fun _ => False) wr W → Calls Tryd.prog 19 #[.pointer (some ⟨pd, 0, none⟩), .int .i64 (un : Int), .int .i64 xr, .int .i64 xt] W fun e w' =>
          ∃ v', e = .returned (.tuple #[v', .int .i64 0]) ∧ BookV w' v' (T - k) (upd D un (putR (D un) ⟨un, xr, xt⟩)) ∧ Kept (fun _ => False) W w') := Lib.hid fun W kw => by
        refine (assign_any W _ (T - (k + 1)) D un xr xt (hbd.kept kw) (by omega) (by omega) (by omega) (by omega) (by omega) (by omega) (by omega)).mono ?_
        rintro e w' ⟨v', he, hb', hk'⟩
        exact ⟨v', he, hb'.more (by omega), hk'⟩
      have HAl := Lib.hid hall
      have HCc : Hid (∀ W, Kept (fun _ => False) wr W → W.cell? ⟨g, off + k * 3, none⟩ = some (.int .i64 (un : Int)) ∧ W.cell? ⟨g, off + k * 3 + 1, none⟩ = some (.int .i64 xr) ∧ W.cell? ⟨g, off + k * 3 + 2, none⟩ = some (.int .i64 xt)) := Lib.hid fun W kw =>
        ⟨(kw.cell hg (fun h => h)).trans c0, (kw.cell hg (fun h => h)).trans c1, (kw.cell hg (fun h => h)).trans c2⟩
      clear hg hst hf1 hbd hb hrd hall had hd
      have hk1 : IntKind.i64.wrap ((k : Int) - 1) = (k : Int) - 1 := by rw [IntKind.wrap_i64]; omega
      go_wp2_with fail
      go_region_held3 (fun w' => w'.cell? ⟨g, off + k * 3, none⟩ = some (.int .i64 (un : Int)) ∧ w'.cell? ⟨g, off + k * 3 + 1, none⟩ = some (.int .i64 xr) ∧ w'.cell? ⟨g, off + k * 3 + 2, none⟩ = some (.int .i64 xt))
        (first | exact HCc.out _ K6.out | exact HCc.out _ (Kept.refl _ _) | exact HCc.out _ (Kept.refl _ _).drew)
        ((go_at_call 19; with_reducible refine (HAs.out _ (by first | exact Kept.refl _ _ | exact (Kept.refl _ _).drew)).mono ?_; rintro e w6 ⟨v6, rfl, b6, k6⟩; have HB6 : Hid (∃ D', BookV w6 v6 (T - k) D' ∧ allE D' = (allE H).drop k) := Lib.hid ⟨_, b6, HAl.out⟩; have K6 := Lib.hid (Kept.then (show Kept (fun _ => False) wr _ from (by first | exact Kept.refl _ _ | exact (Kept.refl _ _).drew)) k6); have HK6 := Lib.hid (hkw.out.then K6.out); clear b6 k6))
      all_goals go_wp2_with fail
      go_roundw
      case rel => first | exact ⟨k, by omega, by go_num, HB6, HK6⟩ | ((repeat apply Exists.intro); exact ⟨⟨k, by omega, by go_num, HB6, HK6⟩, rfl⟩)
      case measure => (simp [intOf]) <;> omega
    · obtain rfl : j = 0 := by omega
      rw [List.drop_zero] at had
      have BD := Lib.hid hbd; have HAd := Lib.hid had
      obtain ⟨pd, _, hp, -, -⟩ := hbd
      subst hp
      have BB := Lib.hid (B2.out.kept hkw.out); have BC := Lib.hid (B3.out.kept hkw.out)
      have ET := Lib.hid (E2.out.kept hkw.out (fun _ _ h => h)); have EU := Lib.hid (E3.out.kept hkw.out (fun _ _ h => h))
      have KW := Lib.hid (K3.out.then hkw.out)
      clear hd had hkw B2 B3 E2 E3 K3 K4 B4
      go_wp2_with fail
      refine (equalR_any wr _ _ (allE H) (allE G) ET.out EU.out).mono ?_
      obtain ⟨q, hq⟩ : ∃ q, q = decide (allE H = allE G) := ⟨_, rfl⟩
      rw [← hq]
      have HQ := Lib.hid hq
      have HQ2 : Hid (decide (allE G = allE H) = q) := Lib.hid (by rw [hq]; exact decide_eq_decide.2 ⟨fun h => h.symm, fun h => h.symm⟩)
      clear hq
      rintro e w5 ⟨rfl, j5⟩
      replace BB := Lib.hid (BB.out.kept j5); replace BC := Lib.hid (BC.out.kept j5); replace BD := Lib.hid (BD.out.kept j5)
      have K5 := Lib.hid (KW.out.then j5)
      clear j5 KW
      go_wp2_with fail
      refine (mequal_any w5 _ _ 16 16 H G BB.out BC.out (by omega) (by omega)).mono ?_
      rw [← HQ.out]
      rintro e w6 ⟨rfl, j6⟩
      replace BB := Lib.hid (BB.out.kept j6); replace BC := Lib.hid (BC.out.kept j6); replace BD := Lib.hid (BD.out.kept j6)
      have K6 := Lib.hid (K5.out.then j6)
      clear j6 K5
      have HC1 := Lib.hid (fun W hb hc => mequal_any W (.pointer (some ⟨pc, 0, none⟩)) (.pointer (some ⟨pb, 0, none⟩)) 16 16 G H hc hb (by omega) (by omega))
      have HC2 := Lib.hid (fun W hd hb => mequal_any W (.pointer (some ⟨pd, 0, none⟩)) (.pointer (some ⟨pb, 0, none⟩)) (T - 0) 16 D H hd hb (by omega) (by omega))
      rw [HQ2.out] at HC1
      rw [HAd.out, decide_eq_true rfl] at HC2
      clear HQ HQ2
      cases q
      all_goals
        go_wp2_with fail
        refine (HC1.out w6 BB.out BC.out).mono ?_
        rintro e w7 ⟨rfl, j7⟩
        replace BB := Lib.hid (BB.out.kept j7); replace BD := Lib.hid (BD.out.kept j7)
        have K7 := Lib.hid (K6.out.then j7)
        clear j7
        go_wp2_with fail
        refine (HC2.out w7 BD.out BB.out).mono ?_
        rintro e w8 ⟨rfl, j8⟩
        have K8 := Lib.hid (K7.out.then j8)
        clear j8
        go_wp2_with fail
        go_ret
        exact ⟨rfl, K8.out⟩
end Go.Proofs.YtccanbjnbmihgaaDoor
/-
  arbaclaw12.MembershipBytes: the walk.
-/
namespace Go.Proofs.YtccanbjnbmihgaaDoor
open Go.RowKit
set_option linter.unusedVariables false
set_option linter.unusedSimpArgs false

theorem bytesE_byte (l : List Ent) : ∀ x ∈ bytesE l, x < 256 := fun x hx => by
  unfold bytesE encE encOne at hx
  simp only [List.mem_append, List.mem_flatMap] at hx
  rcases hx with hx | ⟨_, _, (hx | hx) | hx⟩ <;> exact enc_byte _ x hx
theorem good_allE {H : Nat → List Ent} (h : Rows2 H) (hl : (allE H).length ≤ 16) : GoodL (allE H) :=
  ⟨fun x hx => by have h1 := fitE h x hx; have h2 := user_one h x hx; omega, allE_sorted h, by omega⟩
theorem bytesE_len {H : Nat → List Ent} (h : Rows2 H) (hl : (allE H).length ≤ 16) : (bytesE (allE H)).length ≤ 490 := by
  have h1 := encE_len (allE H) (fitE h)
  have h2 := enc_len (v := (allE H).length) (by omega)
  unfold bytesE
  rw [List.length_append]; omega

set_option maxRecDepth 100000 in
set_option maxHeartbeats 6400000 in
theorem mbytes_law (w : World) (v : Value) (rs : List Raw3) (h : Raws w v rs) (hL : Lb2 w) :
    Calls Tryd.prog 9 #[v] w fun e w' => e = .returned (.bool true) ∧ Kept (fun _ => False) w w' := by
  have HE := Lib.hid h; have HL := Lib.hid hL
  obtain ⟨va, vc, hform, _, _⟩ := h.form
  obtain ⟨N, hN⟩ : ∃ N, N = rs.length := ⟨_, rfl⟩
  rw [← hN] at hform
  subst hform
  clear h hL hN
  go_enter Tryd.func9, Tryd.ntmps9
  go_wp2_with fail
  refine (awake12_any w HL.out).mono ?_
  rintro e w1 ⟨rfl, k1⟩
  have K1 := Lib.hid k1; clear k1
  go_wp2_with fail
  refine (lmake_any w1 _ rs (HE.out.kept K1.out)).mono ?_
  rintro e w2 ⟨bv, tl, rfl, bb2, e2, k2⟩
  have K2 := Lib.hid (K1.out.then k2)
  obtain ⟨hRw, hAl⟩ := mkH_rows (rs.take 16)
  have hLen : (mkE (rs.take 16)).length ≤ 16 := Nat.le_trans (mkE_len _) (by rw [List.length_take]; omega)
  rw [← hAl] at e2 hLen
  generalize mkH (rs.take 16) = H at bb2 e2 hRw hLen
  have B2 := Lib.hid bb2; have E2 := Lib.hid e2; have HRw := Lib.hid hRw
  have HGd := Lib.hid (good_allE hRw hLen); have HBl := Lib.hid (bytesE_len hRw hLen); have HBb := Lib.hid (bytesE_byte (allE H))
  have HFt : Hid (∀ x ∈ allE H, 0 ≤ x.u ∧ x.u ≤ 256 ∧ 1 ≤ x.r ∧ x.r ≤ 63 ∧ 0 ≤ x.t ∧ x.t ≤ 30000) := Lib.hid (fitE hRw)
  obtain ⟨pb, _, rfl, -, -⟩ := bb2
  obtain ⟨ta, tc, rfl, tc1, tc2⟩ := e2.form
  have HT : Hid ((allE H).length ≤ 20000) := Lib.hid (by omega)
  clear k2 K1 hAl e2 hRw hLen
  obtain ⟨T, hT⟩ : ∃ T, T = (allE H).length := ⟨_, rfl⟩
  rw [← hT] at E2 tc1 ⊢
  clear hT
  go_wp2_with fail
  refine (mbytes_any w2 _ 16 H B2.out (by omega)).mono ?_
  rintro e w3 ⟨v3, rfl, f3, k3⟩
  have F3 := Lib.hid f3; have K3 := Lib.hid (K2.out.then k3)
  replace B2 := Lib.hid (B2.out.kept k3); replace E2 := Lib.hid (E2.out.kept k3 (fun _ _ h => h))
  clear f3 k3 K2
  go_wp2_with fail
  refine (bytes12_any w3 _ (allE H) E2.out HFt.out HT.out).mono ?_
  rintro e w4 ⟨v4, rfl, f4, k4⟩
  have F4 := Lib.hid f4; have K4 := Lib.hid (K3.out.then k4)
  have hr3 := F3.out.reads.kept k4 (fun _ _ h => h)
  replace B2 := Lib.hid (B2.out.kept k4); replace E2 := Lib.hid (E2.out.kept k4 (fun _ _ h => h))
  have hq := equalb_any w4 v3 v4 _ _ hr3 F4.out.reads
  rw [decide_eq_true rfl] at hq
  have HQ := Lib.hid hq
  clear f4 k4 K3 hr3 hq F3
  go_wp2_with fail
  refine HQ.out.mono ?_
  rintro e w5 ⟨rfl, k5⟩
  have K5 := Lib.hid (K4.out.then k5)
  replace B2 := Lib.hid (B2.out.kept k5); replace E2 := Lib.hid (E2.out.kept k5 (fun _ _ h => h))
  clear k5 K4 HQ F4
  go_wp2_with fail
  refine (bytes12_any w5 _ (allE H) E2.out HFt.out HT.out).mono ?_
  rintro e w6 ⟨v6, rfl, f6, k6⟩
  have F6 := Lib.hid f6; have K6 := Lib.hid (K5.out.then k6)
  replace B2 := Lib.hid (B2.out.kept k6); replace E2 := Lib.hid (E2.out.kept k6 (fun _ _ h => h))
  clear f6 k6 K5
  go_wp2_with fail
  refine (mread_any w6 v6 _ F6.out.reads HBb.out (by have := HBl.out; omega)).mono ?_
  rintro e w7 ⟨k7, ⟨rfl, hbad⟩ | ⟨v7, G, rfl, b7, -, hG⟩⟩
  · exact absurd rfl (hbad _ HGd.out)
  have hGH := hG _ HGd.out rfl
  have K7 := Lib.hid (K6.out.then k7)
  have B7 := Lib.hid b7
  replace B2 := Lib.hid (B2.out.kept k7); replace E2 := Lib.hid (E2.out.kept k7 (fun _ _ h => h))
  obtain ⟨pc, _, rfl, -, -⟩ := b7
  have HGH := Lib.hid hGH
  clear k7 hG hGH K6 F6
  go_wp2_with fail
  refine (lis_any w7 _ _ 1000 G B7.out (by omega) (by rw [HGH.out]; exact E2.out)).mono ?_
  rintro e w8 ⟨rfl, k8⟩
  have K8 := Lib.hid (K7.out.then k8)
  have hq := mequal_any w8 _ _ 1000 16 G H (B7.out.kept k8) (B2.out.kept k8) (by omega) (by omega)
  rw [decide_eq_true HGH.out] at hq
  have HQ := Lib.hid hq
  clear k8 hq K7
  go_wp2_with fail
  refine HQ.out.mono ?_
  rintro e w9 ⟨rfl, k9⟩
  have K9 := Lib.hid (K8.out.then k9)
  clear k9
  go_wp2_with fail
  go_ret
  exact ⟨rfl, K9.out⟩
end Go.Proofs.YtccanbjnbmihgaaDoor
/-
  arbaclaw12.MembershipReads: the walk.
-/
namespace Go.Proofs.YtccanbjnbmihgaaDoor
open Go.RowKit
set_option linter.unusedVariables false
set_option linter.unusedSimpArgs false

/-- A new copy of bytes that lie in memory. -/
theorem copy_run12 {w : World} {y : Value} {ys : List Nat} (hy : Reads w y ys) (hl : ys.length ≤ 1000000) :
    ∃ a c w', (Builtin.append_ #[76, 76] 76 #[.slice (some ⟨w.heap.size, 0, none⟩) 0 0, y]).run Tryd.prog (w.alloc (.cells #[] 5)) = .ok (.slice a ys.length c) w' ∧ Fresh w' w.heap.size (.slice a ys.length c) ys ∧ Kept (fun _ => False) w w' := by
  have h0 : Fresh (w.alloc (.cells #[] 5)) w.heap.size (.slice (some ⟨w.heap.size, 0, none⟩) 0 0) [] :=
    ⟨⟨by simp [bv], Or.inr ⟨w.heap.size, 0, #[], rfl, Nat.le_refl _, heap_alloc_new w _, Nat.le_refl _, Nat.zero_le _, by simp, by simp [bv]⟩⟩, fun k hk => by simp [Value.ownBlock] at hk; omega⟩
  obtain ⟨a, c, w', h1, h2, h3⟩ := append_reads_run h0 (hy.kept (Kept.alloc (fun _ => False) w (.cells #[] 5)) (fun _ _ h => h)) (by simpa using hl) (by simp)
  rw [List.nil_append] at h1 h2
  exact ⟨a, c, w', h1, h2, (Kept.alloc (fun _ => False) w _).trans h3 (fun _ _ h => h) (fun i hi e => by simp [blk, Value.ownBlock] at e; omega)⟩
theorem Reads.takeV12 {w : World} {xs : List Nat} {a : Option Addr} {c : Nat} (n : Nat) (h : Reads w (.slice a xs.length c) xs) (hn : n ≤ xs.length) : Reads w (.slice a n c) (xs.take n) := by
  rcases h with ⟨h, rfl⟩ | ⟨g, off, cap, h, h1, h2, h3, h4⟩
  · cases h
    have : n = 0 := by simpa using hn
    subst this
    exact Or.inl ⟨rfl, rfl⟩
  · cases h
    exact Reads.take n (Or.inr ⟨g, off, c, rfl, h1, h2, h3, h4⟩) hn
theorem bv_set (xs : List Nat) (k y : Nat) : (bv xs).set k (.int .u8 (y : Int)) = bv (xs.set k y) := by
  unfold bv; rw [List.map_set]

set_option maxRecDepth 100000 in
set_option maxHeartbeats 3200000 in
theorem mreads_law (w : World) (v : Value) (rs : List Raw3) (s0 s1 : Nat) (pa : Option Addr) (pl pc : Nat) (ps : List Nat) (h : Raws w v rs) (hL : Lb2 w) (h0 : s0 < 256) (h1 : s1 < 256) (hp : InBytes w (.slice pa pl pc) ps) :
    Calls Tryd.prog 10 #[v, .agg #[.int .u8 (s0 : Nat), .int .u8 (s1 : Nat)], .slice pa pl pc] w fun e w' => e = .returned (.bool true) ∧ Kept (fun _ => False) w w' := by
  have HE := Lib.hid h; have HL := Lib.hid hL; have HP := Lib.hid hp
  have hka : Kept (fun _ => False) w (w.alloc (.cells #[.int .u8 (s0 : Int), .int .u8 (s1 : Int)] 81)) := Kept.alloc _ _ _
  have HKA := Lib.hid hka
  have hbx : (w.alloc (.cells #[.int .u8 (s0 : Int), .int .u8 (s1 : Int)] 81)).cell? ⟨w.heap.size, 0, none⟩ = some (.int .u8 s0) ∧ (w.alloc (.cells #[.int .u8 (s0 : Int), .int .u8 (s1 : Int)] 81)).cell? ⟨w.heap.size, 1, none⟩ = some (.int .u8 s1) := ⟨by go_simp, by go_simp⟩
  have HBX := Lib.hid hbx
  obtain ⟨va, vc, hform, _, _⟩ := h.form
  obtain ⟨N, hN⟩ : ∃ N, N = rs.length := ⟨_, rfl⟩
  rw [← hN] at hform
  subst hform
  clear h hL hN hka hbx hp
  go_enter Tryd.func10, Tryd.ntmps10
  go_wp2_with fail
  generalize w.alloc (.cells #[.int .u8 (s0 : Int), .int .u8 (s1 : Int)] 81) = wA at *
  obtain ⟨P, hP⟩ : ∃ P, P = w.heap.size := ⟨_, rfl⟩
  rw [← hP] at HBX ⊢
  clear hP
  refine (awake12_any wA (HL.out.kept HKA.out)).mono ?_
  rintro e w1 ⟨rfl, k1⟩
  have K1 := Lib.hid (HKA.out.then k1)
  have q0 : w1.cell? ⟨P, 0, none⟩ = some (.int .u8 (s0 : Int)) := (k1.cell (World.block_lt_of_cell? wA _ HBX.out.1) (fun h => h)).trans HBX.out.1
  have q1 : w1.cell? ⟨P, 1, none⟩ = some (.int .u8 (s1 : Int)) := (k1.cell (World.block_lt_of_cell? wA _ HBX.out.2) (fun h => h)).trans HBX.out.2
  have Q0 := Lib.hid q0; have Q1 := Lib.hid q1
  have hPw : P < w1.heap.size := World.block_lt_of_cell? w1 _ q0
  obtain ⟨hRw, hAl⟩ := mkH_rows (rs.take 16)
  have hLen : (mkE (rs.take 16)).length ≤ 16 := Nat.le_trans (mkE_len _) (by rw [List.length_take]; omega)
  rw [← hAl] at hLen
  have HM : Hid (∀ W, Kept (fun _ => False) w1 W → Calls Tryd.prog 43 #[.slice va N vc] W fun e w' => ∃ v', e = .returned v' ∧ Ents w' v' (allE (mkH (rs.take 16))) ∧ Kept (fun _ => False) W w') := Lib.hid fun W kw => by
    rw [hAl]; exact rmake_any W _ rs (HE.out.kept (K1.out.then kw))
  have HBb := Lib.hid (bytesE_byte (allE (mkH (rs.take 16))))
  have HBl := Lib.hid (bytesE_len hRw hLen)
  have HBy : Hid (∀ W u, Ents W u (allE (mkH (rs.take 16))) → Calls Tryd.prog 41 #[u] W fun e w' => ∃ v', e = .returned v' ∧ Fresh w' W.heap.size v' (bytesE (allE (mkH (rs.take 16)))) ∧ Kept (fun _ => False) W w') := Lib.hid fun W u hu => bytes12_any W u _ hu (fitE hRw) (by omega)
  have hpos : 0 < (bytesE (allE (mkH (rs.take 16)))).length := by
    have := enc_pos (allE (mkH (rs.take 16))).length
    unfold bytesE; rw [List.length_append]; omega
  have HPos := Lib.hid hpos
  clear hRw hAl hLen k1 hpos HBX
  generalize allE (mkH (rs.take 16)) = L at *
  generalize bytesE L = xs at *
  have hs0w : IntKind.i64.wrap (s0 : Int) = (s0 : Int) := IntWalk.i64_in _ (by omega)
  go_wp2_with fail
  go_region_held3 (fun w' => w'.cell? ⟨P, 0, none⟩ = some (.int .u8 (s0 : Int)))
    (first | exact q2 | exact q3 | exact Q0.out)
    (first
      | (go_at_call 43; with_reducible refine (HM.out _ (by first | exact Kept.refl _ _ | exact (Kept.refl _ _).drew)).mono ?_; rintro e w2 ⟨v2, rfl, e2, k2⟩; have E2 := Lib.hid e2; have K2 := Lib.hid (Kept.then (show Kept (fun _ => False) w1 _ from (by first | exact Kept.refl _ _ | exact (Kept.refl _ _).drew)) k2); have q2 : w2.cell? ⟨P, 0, none⟩ = some (.int .u8 (s0 : Int)) := (K2.out.cell hPw (fun h => h)).trans Q0.out; clear e2 k2)
      | (go_at_call 41; with_reducible refine (HBy.out _ _ E2.out).mono ?_; rintro e w3 ⟨v3, rfl, f3, k3⟩; have F3 := Lib.hid f3; have K3 := Lib.hid (K2.out.then k3); have q3 : w3.cell? ⟨P, 0, none⟩ = some (.int .u8 (s0 : Int)) := (K3.out.cell hPw (fun h => h)).trans Q0.out; clear f3 k3))
  have hw12 : w1.heap.size ≤ w2.heap.size := K2.out.size
  have hw01 : w.heap.size ≤ w1.heap.size := K1.out.size
  obtain ⟨g, cap, hv, hB, hg⟩ := F3.out.own.form HPos.out
  subst hv
  obtain ⟨n, hn⟩ : ∃ n, n = xs.length := ⟨_, rfl⟩
  have hn0 := HPos.out
  have hn490 := HBl.out
  rw [← hn] at hn0 hn490 ⊢
  obtain ⟨k, hk⟩ : ∃ k, k = s0 % n := ⟨_, rfl⟩
  have hkn : k < n := by rw [hk]; exact Nat.mod_lt _ hn0
  have hkm : (s0 : Int).tmod (n : Int) = (k : Int) := by rw [Int.tmod_eq_emod_of_nonneg (by omega), hk]; exact (Int.natCast_emod s0 n).symm
  have hcn : n ≤ cap := by
    rcases F3.out.reads with ⟨h, _⟩ | ⟨g', o', c', he, h1, _⟩
    · cases h
    · injection he with _ _ e3; omega
  have hcm : cap ≤ 9223372036854775807 := by
    rcases F3.out.reads with ⟨h, _⟩ | ⟨g', o', c', he, h1, h2, _⟩
    · cases h
    · injection he with _ _ e3; unfold maxLen at h2; omega
  have hcut := F3.out.reads.take k (by omega)
  have hcl : (xs.take k).length = k := by rw [List.length_take]; omega
  obtain ⟨a4, c4, w4, r4, f4, k4⟩ := copy_run12 hcut (by omega)
  rw [hcl] at r4 f4
  have R4 := Lib.hid r4; have F4 := Lib.hid f4; have K4 := Lib.hid k4
  have HN := Lib.hid hn; have HK := Lib.hid hk
  have own4 := k4.owns F3.out.own (fun _ _ h => h)
  have c4a : w4.cell? ⟨g, k, none⟩ = some (.int .u8 (xs.getD k 0 : Nat)) := by
    rw [own4.cellAt k (by omega)]
    exact bv_at8 xs k (by omega)
  have c4b : w4.frozen? ⟨g, k, none⟩ = false := own4.frozenAt k
  have c4c : w4.cell? ⟨P, 1, none⟩ = some (.int .u8 (s1 : Int)) := ((K3.out.then k4).cell (p := ⟨P, 1, none⟩) hPw (fun h => h)).trans Q1.out
  have OWN4 := Lib.hid own4
  have l1 : (k : Int) < (n : Int) := by omega
  have l0 : (0 : Int) ≤ (k : Int) := by omega
  have l2 : (k : Int) ≤ (cap : Int) := by omega
  have l3 : ((n : Int) == 0) = false := by simp; omega
  clear r4 f4 k4 hcut hcl hn hk own4 q0 q1 q2 q3 hs0w HBy HM
  go_wp2_with (at_builtin; refine wpList_append_run (by rfl) _ _ _ _ rfl _ _ rfl rfl R4.out ?_)
  obtain ⟨x0, hx0⟩ : ∃ x0, x0 = xs.getD k 0 := ⟨_, rfl⟩
  have hx0b : x0 < 256 := by
    rw [hx0]
    refine HBb.out _ ?_
    have : k < xs.length := by have := HN.out; omega
    simp [List.getD, this]
  rw [← hx0] at c4a
  obtain ⟨y, hy⟩ : ∃ y : Nat, y = x0 ^^^ s1 := ⟨_, rfl⟩
  have hyb : y < 256 := by rw [hy]; exact Nat.xor_lt_two_pow (n := 8) hx0b h1
  have hxy : bits .xor .u8 (x0 : Int) (s1 : Int) = (y : Int) := by rw [u8_xor_nat _ _ hx0b h1, hy]
  have z1 : ¬ n = 0 := by omega
  have z2 : ¬ (n : Int) = 0 := by omega
  have z3 : (n : Int) ≠ 0 := z2
  have z4 : IntKind.i64.wrap (k : Int) = (k : Int) := IntWalk.i64_in _ (by omega)
  clear hx0 hy R4
  go_still_tail 11, (by kernel_rfl)
  replace c4a : w4.drew.cell? ⟨g, k, none⟩ = some (.int .u8 (x0 : Int)) := c4a
  replace c4b : w4.drew.frozen? ⟨g, k, none⟩ = false := c4b
  replace c4c : w4.drew.cell? ⟨P, 1, none⟩ = some (.int .u8 (s1 : Int)) := c4c
  change wpList _ _ _ _ _ w4.drew
  have k45 : Kept (fun _ => False) w4 w4.drew := (Kept.refl _ _).drew
  have own5 := k45.owns OWN4.out (fun _ _ h => h)
  have f5 : Reads w4.drew (.slice a4 k c4) (xs.take k) := F4.out.reads.kept k45 (fun _ _ h => h)
  have ne5 : (Value.slice a4 k c4).ownBlock ≠ some g := fun e => by have := F4.out.block g e; omega
  have k05 : Kept (fun _ => False) w w4.drew := ((K1.out.then K3.out).then K4.out).then k45
  have hst := (own5.stored k (.int .u8 (y : Int))).1
  rw [bv_set] at hst
  have kst : Kept (fun j => j = g) w4.drew (w4.drew.setCell ⟨g, k, none⟩ (.int .u8 (y : Int))) := Kept.setCell _ _ _ _ rfl
  have KST : Hid (Kept (fun _ => False) w (w4.drew.setCell ⟨g, k, none⟩ (.int .u8 (y : Int))) ∧ Reads (w4.drew.setCell ⟨g, k, none⟩ (.int .u8 (y : Int))) (.slice a4 k c4) (xs.take k)) :=
    Lib.hid ⟨k05.trans kst (fun _ _ h => h) (fun i hi e => by omega), f5.kept kst (fun j hj e => ne5 (e ▸ hj))⟩
  have HST := Lib.hid hst
  clear k45 own5 f5 ne5 k05 hst kst OWN4 F4 K4 F3 K3 K2
  generalize w4.drew = w5 at *
  have hpf : pl = ps.length ∧ pl ≤ pc ∧ pc ≤ 9223372036854775807 := by
    rcases HP.out.reads with ⟨h, h'⟩ | ⟨g', o', c', he, h1, h2, _⟩
    · injection h with _ e2 e3; subst h'; simp at e2 e3 ⊢; omega
    · injection he with _ e2 e3; unfold maxLen at h2; omega
  obtain ⟨m, hm⟩ : ∃ m, m = Nat.min pl 100 := ⟨_, rfl⟩
  have hm1 : m ≤ pl := by rw [hm]; exact Nat.min_le_left _ _
  have hm2 : m ≤ 100 := by rw [hm]; exact Nat.min_le_right _ _
  have hmin : min (pl : Int) 100 = (m : Int) := by
    rw [hm]
    rcases Nat.lt_or_ge pl 100 with h | h
    · rw [show Nat.min pl 100 = pl from Nat.min_eq_left (by omega)]; omega
    · rw [show Nat.min pl 100 = 100 from Nat.min_eq_right h]; omega
  have RP : Hid (Reads w (.slice pa m pc) (ps.take m)) := Lib.hid (by
    have := HP.out.reads
    rw [hpf.1] at this
    exact this.takeV12 m (by omega))
  have y0 : (0 : Int) ≤ (m : Int) := by omega
  have y1 : (m : Int) ≤ (pc : Int) := by omega
  have y2 : m ≤ pc := by omega
  have HPF := Lib.hid hpf
  clear hm hpf
  go_wp2_with fail
  have hfr : Fresh (w5.setCell ⟨g, k, none⟩ (.int .u8 (y : Int))) w2.heap.size (.slice (some ⟨g, 0, none⟩) n cap) (xs.set k y) :=
    ⟨by have h := HST.out; rw [← HN.out] at h; rw [List.length_set, ← HN.out]; exact h, fun j hj => by have e : g = j := Option.some.inj hj; omega⟩
  have kal : Kept (fun _ => False) (w5.setCell ⟨g, k, none⟩ (.int .u8 (y : Int))) ((w5.setCell ⟨g, k, none⟩ (.int .u8 (y : Int))).alloc (.cells #[.slice pa m pc, .slice (some ⟨g, 0, none⟩) n cap, .slice a4 k c4] 76)) := Kept.alloc _ _ _
  have hB0 : (w5.setCell ⟨g, k, none⟩ (.int .u8 (y : Int))).heap.size = w5.heap.size := by simp
  have hX0 := cell_of_row ((w5.setCell ⟨g, k, none⟩ (.int .u8 (y : Int))).alloc (.cells #[.slice pa m pc, .slice (some ⟨g, 0, none⟩) n cap, .slice a4 k c4] 76)) (w5.setCell ⟨g, k, none⟩ (.int .u8 (y : Int))).heap.size 0 _ _ (0, 0) (heap_alloc_new _ _)
  have hX1 := cell_of_row ((w5.setCell ⟨g, k, none⟩ (.int .u8 (y : Int))).alloc (.cells #[.slice pa m pc, .slice (some ⟨g, 0, none⟩) n cap, .slice a4 k c4] 76)) (w5.setCell ⟨g, k, none⟩ (.int .u8 (y : Int))).heap.size 1 _ _ (0, 0) (heap_alloc_new _ _)
  have hX2 := cell_of_row ((w5.setCell ⟨g, k, none⟩ (.int .u8 (y : Int))).alloc (.cells #[.slice pa m pc, .slice (some ⟨g, 0, none⟩) n cap, .slice a4 k c4] 76)) (w5.setCell ⟨g, k, none⟩ (.int .u8 (y : Int))).heap.size 2 _ _ (0, 0) (heap_alloc_new _ _)
  rw [hB0] at hX0 hX1 hX2
  have HX : Hid (∀ j, j < 3 → ∃ xv ys, ((w5.setCell ⟨g, k, none⟩ (.int .u8 (y : Int))).alloc (.cells #[.slice pa m pc, .slice (some ⟨g, 0, none⟩) n cap, .slice a4 k c4] 76)).cell? ⟨w5.heap.size, j, none⟩ = some xv ∧
      Reads ((w5.setCell ⟨g, k, none⟩ (.int .u8 (y : Int))).alloc (.cells #[.slice pa m pc, .slice (some ⟨g, 0, none⟩) n cap, .slice a4 k c4] 76)) xv ys ∧ (∀ b ∈ ys, b < 256) ∧ ys.length ≤ 900) := Lib.hid fun j hj => by
    rcases (by omega : j = 0 ∨ j = 1 ∨ j = 2) with rfl | rfl | rfl
    · exact ⟨_, _, hX0, RP.out.kept (KST.out.1.then kal) (fun _ _ h => h), fun b hb => HP.out.byte b (List.mem_of_mem_take hb), by rw [List.length_take]; omega⟩
    · refine ⟨_, _, hX1, hfr.reads.kept kal (fun _ _ h => h), fun b hb => ?_, by rw [List.length_set, ← HN.out]; omega⟩
      rcases List.mem_or_eq_of_mem_set hb with hb | rfl
      · exact HBb.out b hb
      · exact hyb
    · exact ⟨_, _, hX2, KST.out.2.kept kal (fun _ _ h => h), fun b hb => HBb.out b (List.mem_of_mem_take hb), by rw [List.length_take]; omega⟩
  have HK7 := Lib.hid (KST.out.1.then kal)
  have hBlt : w5.heap.size < ((w5.setCell ⟨g, k, none⟩ (.int .u8 (y : Int))).alloc (.cells #[.slice pa m pc, .slice (some ⟨g, 0, none⟩) n cap, .slice a4 k c4] 76)).heap.size := by simp
  clear hfr kal hB0 hX0 hX1 hX2 KST HST RP c4a c4b c4c hxy z1 z2 z3 z4 hmin y0 y1 y2
  generalize (w5.setCell ⟨g, k, none⟩ (.int .u8 (y : Int))).alloc (.cells #[.slice pa m pc, .slice (some ⟨g, 0, none⟩) n cap, .slice a4 k c4] 76) = W7 at *
  generalize w5.heap.size = B at *
  go_loopw [50] (fun iv wr => ∃ j : Nat, j ≤ 3 ∧ iv = .int .i64 j ∧ Hid (Kept (fun _ => False) W7 wr)) (fun iv _ => 3 - (intOf iv).toNat)
  case atStart => exact ⟨0, by omega, rfl, Lib.hid (Kept.refl _ _)⟩
  case round =>
    obtain ⟨j, hj, rfl, hkw⟩ := hrel
    by_cases hlt : j < 3
    · have m1 : (j : Int) < 3 := by omega
      have m0 : (0 : Int) ≤ (j : Int) := by omega
      obtain ⟨xv, ys, hxc, hxr, hxb, hxl⟩ := HX.out j hlt
      have d0 : wr.cell? ⟨B, j, none⟩ = some xv := (hkw.out.cell (p := ⟨B, j, none⟩) hBlt (fun h => h)).trans hxc
      have HR := Lib.hid (hxr.kept hkw.out (fun _ _ h => h))
      have HRd := Lib.hid (mread_any wr xv ys HR.out hxb hxl)
      clear hxc hxr hxb hxl
      go_wp2_with fail
      refine HRd.out.mono ?_
      rintro e w8 ⟨k8, ⟨rfl, -⟩ | ⟨v8, G, rfl, b8, hys, -⟩⟩
      · have HK8 := Lib.hid (hkw.out.then k8)
        clear k8 d0 HRd HR
        go_wp2_with fail
        go_roundw
        case rel => first | exact ⟨j + 1, by omega, by go_num, HK8⟩ | ((repeat apply Exists.intro); exact ⟨⟨j + 1, by omega, by go_num, HK8⟩, rfl⟩)
        case measure => simp [intOf]; omega
      · have K8 := Lib.hid k8
        have HMB := Lib.hid (mbytes_any w8 _ 1000 G b8 (by omega))
        have HR8 := Lib.hid (HR.out.kept k8 (fun _ _ h => h))
        rw [← hys] at HMB
        obtain ⟨pb, _, rfl, -, -⟩ := b8
        clear k8 d0 HRd HR hys
        go_wp2_with fail
        refine HMB.out.mono ?_
        rintro e w9 ⟨v9, rfl, f9, k9⟩
        have hq := equalb_any w9 v9 xv ys ys f9.reads (HR8.out.kept k9 (fun _ _ h => h))
        rw [decide_eq_true rfl] at hq
        have HQ := Lib.hid hq
        have K9 := Lib.hid (K8.out.then k9)
        clear hq f9 k9 K8 HR8 HMB
        go_wp2_with fail
        refine HQ.out.mono ?_
        rintro e w10 ⟨rfl, k10⟩
        have HK10 := Lib.hid (hkw.out.then (K9.out.then k10))
        clear k10 K9
        go_wp2_with fail
        go_roundw
        case rel => first | exact ⟨j + 1, by omega, by go_num, HK10⟩ | ((repeat apply Exists.intro); exact ⟨⟨j + 1, by omega, by go_num, HK10⟩, rfl⟩)
        case measure => simp [intOf]; omega
    · obtain rfl : j = 3 := by omega
      go_wp2_with fail
      go_ret
      exact ⟨rfl, HK7.out.then hkw.out⟩
end Go.Proofs.YtccanbjnbmihgaaDoor
/-
  Raw assignments as they come in (one, and a list).
-/
namespace Go.Proofs.YtccanbjnbmihgaaDoor
open Go.Joins Go.ChangeShapes Go.WideShapes Go.ChangeAt Go.RowKit Go.Deep
set_option linter.unusedSimpArgs false
set_option linter.unusedVariables false
set_option linter.constructorNameAsVariable false

theorem u8_natM (a : Int) (h : (Lit.int .u8 a).wf = true) : ∃ n : Nat, a = (n : Int) ∧ n < 256 := by
  simp [Lit.wf, IntKind.min, IntKind.max, IntKind.signed, IntKind.bits] at h
  exact ⟨a.toNat, by omega, by omega⟩
theorem cellsRaw12 : Tryd.prog.cellsOf 70 = 3 := by kernel_rfl
theorem cellsU8M : Tryd.prog.cellsOf 5 = 1 := by kernel_rfl
theorem add_plainM (g off n : Nat) : (⟨g, off, none⟩ : Addr).add n = ⟨g, off + n, none⟩ := by unfold Addr.add; split <;> simp_all

set_option maxRecDepth 100000 in
theorem rawsL_of {H : Type} {enc : TypeId × Value → H} {W : World} {a : Option Addr} {len cap : Nat} {y : DataW H × List MemPlace} {fuel : Nat} (h : DataW.trod enc Tryd.prog W 0 (fun _ => true) true fuel 44 [.slice a len cap] = some y) :
    ∃ l, Raws W (.slice a len cap) l := by
  rcases open_slice Tryd.underlying44 h with ⟨hcs, _⟩ | ⟨x, l, c, m, n, D, Pl, hcs, _, hl, hm, hmm, _, hi⟩
  · injection hcs with hcs
    injection hcs with e1 e2 e3
    subst e1 e2 e3
    exact ⟨[], Or.inl ⟨⟨_, _, rfl, by unfold maxLen; omega⟩, rfl⟩⟩
  · injection hcs with hcs
    injection hcs with e1 e2 e3
    subst e1 e2 e3
    simp only [if_true] at hmm
    subst hmm
    have hel : ∀ i, i < len → ∃ x0 x1 x2 fu y0 y1 y2, W.cell? ((x.add (i * 3)).add 0) = some x0 ∧ W.cell? ((x.add (i * 3)).add 1) = some x1 ∧ W.cell? ((x.add (i * 3)).add 2) = some x2 ∧
        DataW.trod enc Tryd.prog W 0 (fun _ => true) true fu 5 [x0] = some y0 ∧ DataW.trod enc Tryd.prog W 0 (fun _ => true) true fu 5 [x1] = some y1 ∧ DataW.trod enc Tryd.prog W 0 (fun _ => true) true fu 5 [x2] = some y2 := by
      intro i hil
      obtain ⟨cs', hc, ht⟩ := hi i (by omega)
      rw [cellsRaw12] at hc
      obtain ⟨_, hcl, hat⟩ := World.cells?_some hc
      obtain ⟨y0, y1, y2, fu, _, hlen, t0, t1, t2⟩ := trod_struct3 Tryd.underlying70 ht
      rw [cellsRaw12] at hlen
      match cs', hlen with
      | [x0, x1, x2], _ =>
        refine ⟨x0, x1, x2, fu, y0, y1, y2, hat 0 (by omega), hat 1 (by omega), hat 2 (by omega), ?_, ?_, ?_⟩
        · simpa [cellsU8M] using t0
        · simpa [cellsU8M] using t1
        · simpa [cellsU8M] using t2
    by_cases h0 : len = 0
    · subst h0
      exact ⟨[], Or.inl ⟨⟨_, _, rfl, by omega⟩, rfl⟩⟩
    · obtain ⟨x0, _, _, _, _, _, _, hx0, _⟩ := hel 0 (by omega)
      rw [show (x.add (0 * 3)).add 0 = x from rfl] at hx0
      have hlt := World.block_lt_of_cell? W _ hx0
      have hs := World.cell?_spot hx0
      obtain ⟨g, off, spot⟩ := x
      simp only at hs
      subst hs
      have hr : ∀ i, ∃ r : Raw3, i < len → W.cell? ⟨g, off + i * 3, none⟩ = some (.int .u8 (r.a : Nat)) ∧ W.cell? ⟨g, off + i * 3 + 1, none⟩ = some (.int .u8 (r.b : Nat)) ∧ W.cell? ⟨g, off + i * 3 + 2, none⟩ = some (.int .u8 (r.c : Nat)) ∧ r.a < 256 ∧ r.b < 256 ∧ r.c < 256 := fun i => by
        by_cases hil : i < len
        · obtain ⟨x0, x1, x2, fu, y0, y1, y2, c0, c1, c2, t0, t1, t2⟩ := hel i hil
          rw [add_plainM, add_plainM] at c0 c1 c2
          obtain ⟨i0, e0, _, w0⟩ := DataW.trod_int Tryd.underlying5 t0
          obtain ⟨i1, e1, _, w1⟩ := DataW.trod_int Tryd.underlying5 t1
          obtain ⟨i2, e2, _, w2⟩ := DataW.trod_int Tryd.underlying5 t2
          injection e0 with e0; injection e1 with e1; injection e2 with e2
          subst e0 e1 e2
          obtain ⟨n0, rfl, h0⟩ := u8_natM _ w0
          obtain ⟨n1, rfl, h1⟩ := u8_natM _ w1
          obtain ⟨n2, rfl, h2⟩ := u8_natM _ w2
          exact ⟨⟨n0, n1, n2⟩, fun _ => ⟨c0, c1, c2, h0, h1, h2⟩⟩
        · exact ⟨raw0, fun h => absurd h hil⟩
      obtain ⟨f, hf⟩ := Classical.skolem.1 hr
      refine ⟨(List.range len).map f, Or.inr ⟨g, off, m, by simp, by simpa using hl, by omega, hlt, fun i hi => ?_⟩⟩
      have hil : i < len := by simpa using hi
      have e : ((List.range len).map f).getD i raw0 = f i := by simp [List.getD, hil]
      rw [e]
      exact hf i hil

set_option maxRecDepth 100000 in
theorem raws_in {H : Type} {enc : TypeId × Value → H} {W : World} {base : Nat} {v : Value} {d : DataW H} {p : List MemPlace} (o : Value.okWide Tryd.prog W .any base 44 v) (h : DataW.Trod enc Tryd.prog W 0 (fun _ => true) true 44 v d p) :
    ∃ rs, Raws W v rs := by
  obtain ⟨a, len, cap, rfl⟩ := okWide_slice Tryd.underlying44 o
  obtain ⟨fuel, h⟩ := h
  simp [Value.cells] at h
  exact rawsL_of h
set_option maxRecDepth 100000 in
theorem raw_in {H : Type} {enc : TypeId × Value → H} {W : World} {base : Nat} {v : Value} {d : DataW H} {p : List MemPlace} (o : Value.okWide Tryd.prog W .any base 70 v) (h : DataW.Trod enc Tryd.prog W 0 (fun _ => true) true 70 v d p) :
    ∃ r : Raw3, v = .agg #[.int .u8 (r.a : Nat), .int .u8 (r.b : Nat), .int .u8 (r.c : Nat)] ∧ r.a < 256 ∧ r.b < 256 ∧ r.c < 256 := by
  obtain ⟨v0, v1, v2, y0, y1, y2, n, rfl, _, _, t0, t1, t2⟩ := open_agg3 Tryd.underlying70 (by kernel_rfl) (by kernel_rfl) o h
  obtain ⟨i0, e0, _, w0⟩ := DataW.trod_int Tryd.underlying5 t0
  obtain ⟨i1, e1, _, w1⟩ := DataW.trod_int Tryd.underlying5 t1
  obtain ⟨i2, e2, _, w2⟩ := DataW.trod_int Tryd.underlying5 t2
  injection e0 with e0; injection e1 with e1; injection e2 with e2
  subst e0 e1 e2
  obtain ⟨n0, rfl, h0⟩ := u8_natM _ w0
  obtain ⟨n1, rfl, h1⟩ := u8_natM _ w1
  obtain ⟨n2, rfl, h2⟩ := u8_natM _ w2
  exact ⟨⟨n0, n1, n2⟩, rfl, h0, h1, h2⟩
end Go.Proofs.YtccanbjnbmihgaaDoor
/-
  A pair of bytes as it comes in; the slice of bytes.
-/
namespace Go.Proofs.YtccanbjnbmihgaaDoor
open Go.Joins Go.ChangeShapes Go.WideShapes Go.ChangeAt Go.RowKit Go.Deep
set_option linter.unusedVariables false

theorem okWide_arrS {P : Program} {w : World} {r : Reach} {base n : Nat} {t e : TypeId} {v : Value} (ht : P.underlying t = some (.array n e)) (h : Value.okWide P w r base t v) : ∃ cs, v = .agg cs ∧ cs.size = P.cellsOf t := by
  simp only [Value.okWide, ht] at h
  obtain ⟨cs, h1, h2, _⟩ := h
  exact ⟨cs, h1, h2⟩
theorem cellsU8S : Tryd.prog.cellsOf 5 = 1 := by kernel_rfl
set_option maxRecDepth 100000 in
theorem spot_in {H : Type} {enc : TypeId × Value → H} {W : World} {v : Value} {dd : DataW H} {p : List MemPlace} {base : Nat} (o : Value.okWide Tryd.prog W .any base 81 v) (h : DataW.Trod enc Tryd.prog W 0 (fun _ => true) true 81 v dd p) :
    ∃ a b : Nat, v = .agg #[.int .u8 (a : Nat), .int .u8 (b : Nat)] ∧ a < 256 ∧ b < 256 := by
  obtain ⟨cs, rfl, hsz⟩ := okWide_arrS Tryd.underlying81 o
  obtain ⟨fuel, hf⟩ := h
  obtain ⟨xs, m, _, _, hl, hxl, hi⟩ := DataW.trod_array Tryd.underlying81 hf
  have hl2 : cs.toList.length = 2 := by
    have : (Value.agg cs).cells.toList.length = 2 := hl.trans (by kernel_rfl)
    simpa [Value.cells] using this
  have key : ∀ i, i < 2 → ∃ n : Nat, cs.toList[i]? = some (.int .u8 (n : Nat)) ∧ n < 256 := fun i hi2 => by
    have h1 := hi i hi2
    rw [cellsU8S] at h1
    obtain ⟨x, hx⟩ : ∃ x, xs[i]? = some x := ⟨xs[i], List.getElem?_eq_getElem (by omega)⟩
    rw [hx] at h1
    obtain ⟨z, hc, _, hw⟩ := DataW.trod_int Tryd.underlying5 h1
    obtain ⟨n, rfl, hn⟩ := u8_natM _ hw
    refine ⟨n, ?_, hn⟩
    have := congrArg (·[0]?) hc
    simpa [Value.cells, List.getElem?_take, List.getElem?_drop] using this
  obtain ⟨a, ha, la⟩ := key 0 (by omega)
  obtain ⟨b, hb, lb⟩ := key 1 (by omega)
  refine ⟨a, b, ?_, la, lb⟩
  congr 1
  apply Array.ext'
  match hcl : cs.toList, hl2 with
  | [y0, y1], _ =>
    rw [hcl] at ha hb
    simp at ha hb
    rw [ha, hb]
end Go.Proofs.YtccanbjnbmihgaaDoor
/-
  A slice of bytes that came in. (As in CrcCard, without the tables.)
-/
namespace Go.Proofs.YtccanbjnbmihgaaDoor
open Go.ChangeShapes Go.WideShapes Go.ChangeAt Go.RowKit Go.Joins

set_option maxRecDepth 100000 in
/-- A slice of bytes that came in: it reads as bytes. -/
theorem bytes_in {H : Type} {enc : TypeId × Value → H} {W : World} {base : Nat} {v : Value} {d : DataW H} {p : List MemPlace} (o : Value.okWide Tryd.prog W .any base 76 v) (h : DataW.Trod enc Tryd.prog W 0 (fun _ => true) true 76 v d p) :
    ∃ a len cap xs, v = .slice a len cap ∧ InBytes W (.slice a len cap) xs := by
  obtain ⟨a, len, cap, rfl⟩ := okWide_slice Tryd.underlying76 o
  have o' := o
  obtain ⟨fuel, hf⟩ := h
  rcases open_ints Tryd.underlying76 Tryd.underlying5 (by kernel_rfl) hf with ⟨hcs, _⟩ | ⟨x, l, c, zs, hcs, _, hl, hm, hz, _, hcell, hwz⟩
  · simp [Value.cells] at hcs
    obtain ⟨rfl, rfl, rfl⟩ := hcs
    obtain ⟨xs, hx⟩ := in_bytes Tryd.underlying76 o' (zs := []) (.inl ⟨rfl, rfl, rfl, rfl⟩)
    exact ⟨_, _, _, xs, rfl, hx⟩
  · simp [Value.cells] at hcs
    obtain ⟨rfl, rfl, rfl⟩ := hcs
    obtain ⟨xs, hx⟩ := in_bytes Tryd.underlying76 o' (zs := zs) (.inr ⟨_, rfl, hl, hm, by simpa using hz, hcell, hwz⟩)
    exact ⟨_, _, _, xs, rfl, hx⟩
end Go.Proofs.YtccanbjnbmihgaaDoor
