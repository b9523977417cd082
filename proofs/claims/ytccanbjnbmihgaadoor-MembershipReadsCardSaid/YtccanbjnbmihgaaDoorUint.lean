/-
  (*wire.Writer).Uint: it appends the encoding of the number.
-/
import Derived.Test.YtccanbjnbmihgaaDoorCore
import Derived.Test.YtccanbjnbmihgaaDoorNumL
import Derived.Test.YtccanbjnbmihgaaDoorShelf
import Derived.Test.YtccanbjnbmihgaaDoorBits
import Derived.Test.YtccanbjnbmihgaaDoorRows
import Derived.Deep.RegionHeld3
import Derived.Deep.RegionLaw
import Derived.BigRegion
import Derived.Deep.DrawnRows
import Derived.Outline
import Derived.WalkLawsBesides
import Derived.WalkSpells
import Derived.Deep.DeepMust
import Derived.Deep.LoopGhost
import Derived.IntWalk
namespace Go.Proofs.YtccanbjnbmihgaaDoor
open Go.RowKit

theorem info_u8 : (Tryd.prog.info? 5).map (fun i => (i.zero, i.size, i.bytes)) = some (some (.int .u8 0), 1, 1) := by kernel_rfl

set_option maxRecDepth 100000 in
set_option maxHeartbeats 800000 in
theorem uint_any (n : Nat) (w : World) (wb : Nat) (v : Value) (B : Nat) (xs : List Nat) (h : Wr w wb v B xs) (hl : xs.length ≤ 100000000000000) (hn : Hid (n < 18446744073709551616)) :
    Calls Tryd.prog 70 #[.pointer (some ⟨wb, 0, none⟩), .int .u64 n] w fun e w' => e = .returned (.tuple #[]) ∧
      ∃ v', Wr w' wb v' B (xs ++ enc n) ∧ WStep w w' wb v v' := by
  obtain ⟨i0, hi, hz0, hz1, hz2⟩ := info_parts info_u8
  go_enter Tryd.func70, Tryd.ntmps70
  go_wp2_with fail
  refine (sh_Len64 _ _ (by omega) (by have := hn.out; omega)).mono ?_
  rintro e w0 ⟨rfl, rfl⟩
  obtain ⟨L, hL, hL9, hhi, hlo⟩ := last_spec n hn.out
  simp only [Int.toNat_natCast] 
  generalize hb : (Lib.bitLen n : Int) = bl at hL ⊢
  clear hb
  have HL := Lib.hid hL; clear hL
  have HI := Lib.hid hhi; clear hhi
  have LO := Lib.hid hlo; clear hlo
  go_wp2_with fail
  rw [HL.out]
  have HW := Lib.hid h; clear h
  go_loopw [14] (fun i wr => ∃ k : Nat, k ≤ L ∧ i = .int .i64 k ∧ ∃ v1, Wr wr wb v1 B (xs ++ encHi (n / 128 ^ (L + 1 - k))) ∧ WStep w wr wb v v1) (fun i _ => L - (intOf i).toNat)
  case atStart =>
    refine ⟨0, Nat.zero_le _, rfl, v, ?_, WStep.refl _ _ _⟩
    rw [Nat.sub_zero, Nat.div_eq_of_lt HI.out, encHi_zero, List.append_nil]
    exact HW.out
  case round =>
    obtain ⟨k, hk, rfl, v1, hw1, hs1⟩ := hrel
    have hc := hw1.cell
    have hf := hw1.free
    have HF := Lib.hid hf
    have HC := Lib.hid hc
    have hwlt := hw1.lt
    have hap := hw1.apart
    have hbase := hw1.base
    have hel : (encHi (n / 128 ^ (L + 1 - k))).length ≤ 9 := encHi_len 9 _ (by have := hn.out; have h2 : n / 128 ^ (L + 1 - k) ≤ n / 128 := by (rw [show L + 1 - k = (L - k) + 1 by omega, Nat.pow_succ, ← Nat.div_div_eq_div_mul]; exact Nat.div_le_div_right (Nat.div_le_self _ _)) 
                                                                               have h3 : (128 : Nat) ^ 9 = 9223372036854775808 := by decide
                                                                               omega)
    have hm1 : (xs ++ encHi (n / 128 ^ (L + 1 - k))).length + 1 ≤ maxLen := by rw [List.length_append]; unfold maxLen; omega
    have hm2 : ((xs ++ encHi (n / 128 ^ (L + 1 - k))).length + 1) * 1 ≤ 140737488355328 := by rw [List.length_append]; omega
    by_cases hlt : k < L
    · have hk1 : (k : Int) < L := by omega
      obtain ⟨M, hM⟩ : ∃ M : Nat, M = L - k := ⟨_, rfl⟩
      obtain ⟨S, hS⟩ : ∃ S : Nat, S = 7 * M := ⟨_, rfl⟩
      have he1 : IntKind.i64.wrap ((L : Int) - k) = (M : Int) := by rw [IntWalk.i64_in _ (by omega)]; omega
      have he2 : IntKind.i64.wrap ((M : Int) * 7) = (S : Int) := by rw [IntWalk.i64_in _ (by omega)]; omega
      have hS0 : (0 : Int) ≤ (S : Int) := by omega
      have hS1 : (S : Int) ≤ 64 := by omega
      obtain ⟨b, hb⟩ : ∃ b : Nat, b = n / 2 ^ S % 128 + 128 := ⟨_, rfl⟩
      have hv := group_more n S b hb
      have Hb := Lib.hid hb; clear hb
      have HM := Lib.hid hM; clear hM
      have HS := Lib.hid hS; clear hS
      go_wp2_with fail
      go_region_law (
        ((refine step_append_lies _ (by rfl) _ _ _ (by rfl) B 5 i0 _ 1 1 Tryd.underlying76 hi hz0 hz1 hz2 rfl (by omega) v1 _ _ (by rfl) ((hw1.own.alloc _).drew)
              ⟨wr.heap.size, 0, none⟩ 1 1 [.int .u8 b] (by rfl) (by rfl) (World.news_of_block (cs := #[.int .u8 b]) (t := 5) (fr := (0, 0)) (heap_alloc_new wr _)) (by simp [Value.oneCell'])
              (by omega) hm1 hm2 (by simp; omega) (wr.heap.size + 1) (by simp) ?_; intro gg cap w1 hown1 hgrow hat hgl; have hfz : w1.frozen? ⟨wb, 0, none⟩ = false := (hgrow.frozen_far ⟨wb, 0, none⟩ (by simp; omega) (Ne.symm hap)).trans ((frozen?_alloc_cells _ _ _ _).trans HF.out); have hcz : w1.cell? ⟨wb, 0, none⟩ = some v1 := (hgrow.cell_far ⟨wb, 0, none⟩ (by simp; omega) (Ne.symm hap)).trans ((World.cell?_alloc_past _ _ _ hwlt).trans HC.out))))
      all_goals
        go_wp2
        go_roundw
        case rel =>
          have hp := wr_push1 (ys := [b]) hw1 (Kept.alloc _ _ _).drew rfl rfl hown1 hgrow (hat.imp id (by omega))
          rw [List.length_append] at hp
          refine ⟨k + 1, by omega, by go_num, _, ?_, hs1.trans hp.2⟩
          have he := encHi_step n L k hlt (LO.out (by omega))
          rw [show L + 1 - (k + 1) = L - k by omega, he, ← List.append_assoc]
          have hbb : b = n / 128 ^ (L - k) % 128 + 128 := by rw [Hb.out, HS.out, HM.out, Nat.pow_mul]
          rw [← hbb]
          exact hp.1
        case measure => simp [intOf]; omega
    · obtain rfl : k = L := by omega
      obtain ⟨c, hc'⟩ : ∃ c : Nat, c = n % 128 := ⟨_, rfl⟩
      have hg := group_last' n c hc'
      have HC' := Lib.hid hc'; clear hc'
      go_wp2_with (at_builtin; refine wpList_append_lies _ rfl _ _ _ rfl B 5 i0 _ 1 1 Tryd.underlying76 hi hz0 hz1 hz2 rfl (by omega) v1 _ _ rfl (hw1.own.alloc _) ⟨wr.heap.size, 0, none⟩ 1 1 [.int .u8 c] rfl rfl (World.news_of_block (cs := #[.int .u8 c]) (t := 5) (fr := (0, 0)) (heap_alloc_new wr _)) (by simp [Value.oneCell']) (by omega) hm1 hm2 (by simp; omega) (wr.heap.size + 1) (by simp) ?_)
      intro gg cap w1 hown1 hgrow hat hgl
      have hfz : w1.frozen? ⟨wb, 0, none⟩ = false := (hgrow.frozen_far ⟨wb, 0, none⟩ (by simp; omega) (Ne.symm hap)).trans ((frozen?_alloc_cells _ _ _ _).trans HF.out)
      have hcz : w1.cell? ⟨wb, 0, none⟩ = some v1 := (hgrow.cell_far ⟨wb, 0, none⟩ (by simp; omega) (Ne.symm hap)).trans ((World.cell?_alloc_past _ _ _ hwlt).trans HC.out)
      have hw2 : Wr wr wb v1 B (xs ++ encHi (n / 128)) := by simpa using hw1
      have hp := wr_push1 (ys := [c]) hw2 (Kept.alloc _ _ _) List.length_append rfl hown1 hgrow (hat.imp id (by omega))
      have HP := Lib.hid hp; clear hp
      go_wp2
      go_end0
      rw [enc, ← List.append_assoc, ← HC'.out]
      exact ⟨rfl, _, HP.out.1, hs1.trans HP.out.2⟩
end Go.Proofs.YtccanbjnbmihgaaDoor
