import Derived.Test.YtjglnpijngdpkaaGreatDoorDyX
import Derived.RangeFuncNested
import Derived.BigRegionIn
import Derived.Sort.BigQuietIn
import Derived.RangeFuncBox
import Derived.RangeFuncLeaves
import Derived.Shelf.Abstract
import Derived.Shelf.RegionOpen
import Derived.OwnWalkIn
import Derived.TacticsInMore
import Derived.LoopNIn
import Derived.LoopIn
import Derived.Maps.AppendAt
import Derived.Maps.OwnIn
/-
  Days: slices.Chunk of turns: two at a time.
-/
namespace Go.Proofs.YtjglnpijngdpkaaGreatDoor
open Go.RowKit Go.Shelf
attribute [local go_sem] Oper.semAt_some
set_option linter.unusedSimpArgs false
set_option linter.unusedVariables false
set_option maxRecDepth 100000

/-- What the iterator reads: the row in its box, and how many at a time. -/
structure ChAt (W : World) (B1 B2 : Nat) (row : Value) : Prop where
  c0 : W.cell? ⟨B1, 0, none⟩ = some row
  c1 : W.cell? ⟨B2, 0, none⟩ = some (.int .i64 2)
theorem ChAt.on {a b : World} {B1 B2 : Nat} {row : Value} (h : ChAt a B1 B2 row) (hk : Kept (fun _ => False) a b) : ChAt b B1 B2 row :=
  ⟨(hk.cell (World.block_lt_of_cell? a _ h.c0) (fun h => h)).trans h.c0, (hk.cell (World.block_lt_of_cell? a _ h.c1) (fun h => h)).trans h.c1⟩
/-- The first k numbers below m. -/
def upF (m k : Nat) : List (Fin m) := (List.range k).filterMap fun i => if h : i < m then some ⟨i, h⟩ else none
theorem upF_zero (m : Nat) : upF m 0 = [] := rfl
theorem upF_succ {m k : Nat} (h : k < m) : upF m (k + 1) = upF m k ++ [⟨k, h⟩] := by
  unfold upF
  rw [List.range_succ, List.filterMap_append]
  simp [h]
theorem upF_len {m : Nat} : ∀ {k : Nat}, k ≤ m → (upF m k).length = k
  | 0, _ => rfl
  | k + 1, h => by rw [upF_succ (by omega), List.length_append, upF_len (by omega)]; rfl
theorem upF_pre {m : Nat} : ∀ {k j : Nat}, k ≤ j → j ≤ m → upF m k <+: upF m j
  | k, 0, h, _ => by obtain rfl : k = 0 := by omega
                     exact List.prefix_rfl
  | k, j + 1, h, hm => by
    by_cases e : k = j + 1
    · subst e; exact List.prefix_rfl
    · rw [upF_succ (by omega)]
      exact (upF_pre (by omega) (by omega)).trans (List.prefix_append _ _)
/-- What a round's contract gives the iterator. -/
def RoundC (l m g off : Nat) (Kp : World → World → Prop) (J Jx : List (Fin m) → World → Prop) : Prop :=
  ∀ pre (x : Fin m) W, J pre W → pre.length < m → YieldAt Fence.wide 1 Tryz.prog l #[Value.slice (some ⟨g, off + 2 * x.1, none⟩) 2 2] W fun e W' =>
    (e = .returned (.bool true) ∧ J (pre ++ [x]) W' ∧ Kp W W') ∨ (e = .returned (.bool false) ∧ Jx (pre ++ [x]) W')

set_option maxHeartbeats 3200000 in
theorem chunk1_in (l B1 B2 g off m n c : Nat) (ra : Option Addr) (hra : 0 < m → ra = some ⟨g, off, none⟩) (Kp : World → World → Prop) (J Jx : List (Fin m) → World → Prop) (W : World) (hn : n = 2 * m) (hnb : n ≤ 100000) (hnc : n ≤ c) (hc : c ≤ 9223372036854775807)
    (hY : RoundC l m g off Kp J Jx)
    (hKp : ∀ a b, Kp a b → ChAt a B1 B2 (.slice ra n c) → ChAt b B1 B2 (.slice ra n c))
    (hJ : ∀ pre a b, W.heap.size ≤ a.heap.size → J pre a → Kept (fun _ => False) a b → J pre b)
    (hKs : ∀ a b, Kp a b → a.heap.size ≤ b.heap.size)
    (hA : ChAt W B1 B2 (.slice ra n c)) (h0 : J [] W) :
    CallsIn Fence.wide 2 Tryz.prog 66 #[.func (.yield l) #[] #[], .pointer (some ⟨B1, 0, none⟩), .pointer (some ⟨B2, 0, none⟩)] W fun e W' => (∃ v, e = .returned v) ∧
      ((∃ ys, ys = upF m m ∧ J ys W') ∨ (∃ pre, pre <+: upF m m ∧ Jx pre W')) := by
  have HNN := Lib.hid hn; have HRA := Lib.hid hra
  have HY := Lib.hid hY; have HKP := Lib.hid hKp; have HJ := Lib.hid hJ; have HA := Lib.hid hA; have HKS := Lib.hid hKs
  have H0 : Hid (J (upF m 0) W) := Lib.hid h0
  clear hY hKp hJ hA h0 hKs hn hra
  refine callsIn_of_wp Tryz.func66 rfl trivial ?_ rfl
  simp only [Tryz.ntmps66, List.size_toArray, List.length_cons, List.length_nil, Nat.reduceAdd, Nat.reduceSub, Array.replicate_succ, Array.replicate_zero, List.push_toArray, List.append_toArray, List.nil_append, List.cons_append]
  gi_wp2
  gi_loopw [4, 5] (fun iv _ wr => ∃ (k i : Nat), k ≤ m ∧ i ≤ n ∧ iv = .int .i64 (i : Int) ∧ Hid (i = 2 * k) ∧ W.heap.size ≤ wr.heap.size ∧ Hid (ChAt wr B1 B2 (.slice ra n c)) ∧ Hid (J (upF m k) wr)) (fun iv _ _ => n - (intOf iv).toNat)
  case atStart => exact ⟨0, 0, Nat.zero_le _, Nat.zero_le _, rfl, Lib.hid rfl, Nat.le_refl _, HA, H0⟩
  case round =>
    obtain ⟨k, i, hk, hi, rfl, hik, hsz, hat, hj⟩ := hrel
    clear HA H0
    have c0 := hat.out.c0; have c1 := hat.out.c1
    by_cases hlt : i < n
    · have l1 : (i : Int) < (n : Int) := by omega
      have l0 : (0 : Int) ≤ (i : Int) := by omega
      have hkm : k < m := by have := hik.out; have := HNN.out; omega
      obtain rfl := HRA.out (Nat.lt_of_le_of_lt (Nat.zero_le _) hkm)
      have hi2 : i + 2 ≤ n := by have := hik.out; have := HNN.out; omega
      have HJd : Hid (J (upF m k) wr.drew) := Lib.hid (HJ.out _ _ _ hsz hj.out ((Kept.refl _ _).drew))
      have HAd : Hid (ChAt wr.drew B1 B2 (.slice (some ⟨g, off, none⟩) n c)) := Lib.hid (hat.out.on ((Kept.refl _ _).drew))
      have hsd : W.heap.size ≤ wr.drew.heap.size := hsz
      have hYi := HY.out (upF m k) ⟨k, hkm⟩ wr.drew HJd.out (by rw [upF_len hk]; exact hkm)
      dsimp only at hYi
      rw [← hik.out] at hYi
      obtain ⟨fn, tmps, assign, body, hy, hR⟩ := hYi
      have hmin : min (2 : Int) ((n - i : Nat) : Int) = 2 := by omega
      have lc1 : (i : Int) + 2 ≤ (c : Int) := by omega
      have lc2 : (i : Int) ≤ (i : Int) + 2 := by omega
      have lc3 : (i : Int) ≤ (n : Int) := by omega
      have lc4 : (n : Int) ≤ (c : Int) := by omega
      have HIB : Hid (i + 2 ≤ n) := Lib.hid hi2
      clear hat hj hsz
      gi_wp2
      gi_region
      obtain ⟨d0, d1⟩ := HAd.out
      generalize wr.drew = wd at *
      gi_wp2
      refine hR.mono ?_
      rintro e W3 (⟨rfl, hJ3, hk3⟩ | ⟨rfl, hJx3⟩)
      · have HA3 := Lib.hid (HKP.out _ _ hk3 HAd.out)
        have HJ3 : Hid (J (upF m (k + 1)) W3) := Lib.hid (by rw [upF_succ hkm]; exact hJ3)
        have hs3 : W.heap.size ≤ W3.heap.size := Nat.le_trans hsd (HKS.out _ _ hk3)
        have HIK : Hid (i + 2 = 2 * (k + 1)) := Lib.hid (by have := hik.out; omega)
        have e1 := HA3.out.c1
        clear hJ3 hk3 hy hR
        gi_wp2
        go_roundw
        case rel => exact ⟨k + 1, i + 2, by omega, by omega, by go_num, HIK, hs3, HA3, HJ3⟩
        case measure => simp [intOf]; omega
      · have HX := Lib.hid hJx3
        have HPX : Hid (upF m k ++ [⟨k, hkm⟩] <+: upF m m) := Lib.hid (by rw [← upF_succ hkm]; exact upF_pre hkm (Nat.le_refl _))
        clear hJx3 hy hR
        gi_wp2
        refine bodyPost_ret (results_none rfl _ _ _) rfl ?_
        exact ⟨⟨_, rfl⟩, .inr ⟨_, HPX.out, HX.out⟩⟩
    · obtain rfl : i = n := by omega
      have hkm : k = m := by have := hik.out; have := HNN.out; omega
      have HJ4 := Lib.hid hj.out
      subst hkm
      clear hj
      gi_wp2
      go_end0
      first | exact ⟨⟨_, rfl⟩, .inl ⟨_, rfl, HJ4.out⟩⟩ | exact ⟨⟨_, rfl⟩, .inl HJ4.out⟩ | exact .inl HJ4.out
end Go.Proofs.YtjglnpijngdpkaaGreatDoor
