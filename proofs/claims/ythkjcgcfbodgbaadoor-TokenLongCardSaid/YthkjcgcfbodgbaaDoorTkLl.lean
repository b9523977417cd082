/-
  arbaclaw15.TokenLong returns true.
-/
import Derived.Test.YthkjcgcfbodgbaaDoorTkLo
import Derived.Test.YthkjcgcfbodgbaaDoorTkRe
import Derived.Test.YthkjcgcfbodgbaaDoorTkT
import Derived.Test.YthkjcgcfbodgbaaDoorTkU
namespace Go.Proofs.YthkjcgcfbodgbaaDoor
open Go.RowKit Go.Shelf
set_option linter.unusedSimpArgs false
set_option linter.unusedVariables false

set_option maxRecDepth 100000 in
set_option maxHeartbeats 3200000 in
theorem tlong_law (s : ByteArray) (n : Nat) (w : World) (hS : Sym w) (hs : s.size ≤ maxLen) (hn : n < 256) :
    Calls Tryd.prog 6 #[.string s, .int .u8 (n : Int)] w fun e w' => e = .returned (.bool true) ∧ Kept (fun _ => False) w w' := by
  have HS := Lib.hid hS
  have HAW := Lib.hid (awake15_any w hS)
  have HC := Lib.hid (fun W => cutk_any s W hs)
  have hcs := cutK_size s
  generalize cutK s = t at hcs HC
  have H1 := Lib.hid (fun W hW => tscan_any t W (by omega) hW)
  have hln := scanS_len t
  obtain ⟨c, hc⟩ : ∃ c, c = 8000 - t.size - n := ⟨_, rfl⟩
  have hsb := scan_blanks t c (by omega)
  have HR1 := Lib.hid (fun W => srep_any 32 c W (by omega))
  have HR2 := Lib.hid (fun W => srep_any 10 (n + 1) W (by omega))
  have hz1 : (repB 32 c ++ t).size = c + t.size := by rw [ByteArray.size_append, repB_size]
  have hz2 : ((repB 32 c ++ t) ++ repB 10 (n + 1)).size = c + t.size + (n + 1) := by rw [ByteArray.size_append, hz1, repB_size]
  have H2 := Lib.hid (fun W hW => tscan_any (repB 32 c ++ t) W (by omega) hW)
  have H3 := Lib.hid (fun W hW => tscan_any ((repB 32 c ++ t) ++ repB 10 (n + 1)) W (by omega) hW)
  simp only [scanS_long (s := (repB 32 c ++ t) ++ repB 10 (n + 1)) (by omega)] at H3
  have hln2 := scanS_len (repB 32 c ++ t)
  obtain ⟨R, hR⟩ : ∃ R, R = scanS t := ⟨_, rfl⟩
  obtain ⟨R2, hR2⟩ : ∃ R2, R2 = scanS (repB 32 c ++ t) := ⟨_, rfl⟩
  simp only [← hR, ← hR2] at H1 H2 hsb hln hln2
  obtain ⟨l, o, b⟩ := R
  obtain ⟨l2, o2, b2⟩ := R2
  simp only at H1 H2 hsb hln hln2
  obtain ⟨rfl, hzz⟩ := hsb
  have hl2 : l2.length ≤ 1000 := by
    have := congrArg List.length hzz
    simp only [List.length_map] at this
    omega
  have HZZ := Lib.hid hzz
  have hb1 : (repB 32 c).size = c := repB_size 32 c
  have hb2 : (repB 10 (n + 1)).size = n + 1 := repB_size 10 (n + 1)
  have e1 : IntKind.i64.wrap ((8000 : Int) - (t.size : Int)) = 8000 - (t.size : Int) := IntWalk.i64_in _ (by omega)
  have e2 : IntKind.i64.wrap ((8000 : Int) - (t.size : Int) - (n : Int)) = (c : Int) := by rw [IntWalk.i64_in _ (by omega)]; omega
  have e3 : IntKind.i64.wrap (n : Int) = (n : Int) := IntWalk.i64_in _ (by omega)
  have e4 : (8000 : Int) - (t.size : Int) - (n : Int) = (c : Int) := by omega
  have e5 : IntKind.i64.wrap ((n : Int) + 1) = ((n + 1 : Nat) : Int) := by rw [IntWalk.i64_in _ (by omega)]; omega
  have g1 : ¬ 9223372036854775807 < (repB 32 c).size + t.size := by omega
  have g2 : ¬ 9223372036854775807 < (repB 32 c ++ t).size + (repB 10 (n + 1)).size := by omega
  have g3 : ¬ 9223372036854775807 < (repB 32 c).size + t.size + (repB 10 (n + 1)).size := by omega
  have HT := Lib.hid hcs
  clear hR hR2 hS hs hzz hz1 hz2 hc hb1 hb2
  generalize repB 32 c = A at *
  generalize repB 10 (n + 1) = B at *
  go_enter Tryd.func6, Tryd.ntmps6
  go_wp2_with fail
  refine HAW.out.mono ?_
  rintro e w1 ⟨rfl, k1⟩
  have K1 := Lib.hid k1
  clear k1 HAW
  go_wp2_with fail
  refine (HC.out _).mono ?_
  rintro e w2 ⟨rfl, rfl⟩
  go_wp2_with fail
  refine (H1.out _ (HS.out.kept K1.out (fun h => h))).mono ?_
  rintro e w3 ⟨v3, rfl, o3, k3⟩
  have T3 := Lib.hid o3.toks
  have K3 := Lib.hid (K1.out.then k3)
  clear o3 k3
  go_wp2_with fail
  refine (HR1.out _).mono ?_
  rintro e w4 ⟨rfl, k4⟩
  have T4 := Lib.hid (T3.out.kept k4 (fun _ _ h => h))
  have K4 := Lib.hid (K3.out.then k4)
  clear k4 T3
  go_wp2_with fail
  refine (H2.out _ (HS.out.kept K4.out (fun h => h))).mono ?_
  rintro e w5 ⟨v5, rfl, o5, k5⟩
  have T5 := Lib.hid (T4.out.kept k5 (fun _ _ h => h))
  have U5 := Lib.hid o5.toks
  have K5 := Lib.hid (K4.out.then k5)
  clear o5 k5 T4
  go_wp2_with fail
  refine (plain_any _ l w5 T5.out (by have := HT.out; omega)).mono ?_
  rintro e w6 ⟨v6, rfl, t6, k6⟩
  have T6 := Lib.hid t6
  have U6 := Lib.hid (U5.out.kept k6 (fun _ _ h => h))
  have K6 := Lib.hid (K5.out.then k6)
  clear t6 k6
  go_wp2_with fail
  refine (plain_any _ l2 w6 U6.out (Nat.le_trans hl2 (by decide))).mono ?_
  rintro e w7 ⟨v7, rfl, t7, k7⟩
  rw [HZZ.out] at t7
  have T7 := Lib.hid (T6.out.kept k7 (fun _ _ h => h))
  have U7 := Lib.hid t7
  have K7 := Lib.hid (K6.out.then k7)
  clear t7 k7
  go_wp2_with fail
  refine (teq_any _ _ (l.map zT) w7 T7.out U7.out).mono ?_
  rintro e w8 ⟨rfl, k8⟩
  have K8 := Lib.hid (K7.out.then k8)
  clear k8
  go_wp2_with fail
  refine (HR2.out _).mono ?_
  rintro e w9 ⟨rfl, k9⟩
  have K9 := Lib.hid (K8.out.then k9)
  clear k9
  go_wp2_with fail
  refine (H3.out _ (HS.out.kept K9.out (fun h => h))).mono ?_
  rintro e w10 ⟨v10, rfl, _, k10⟩
  have K10 := Lib.hid (K9.out.then k10)
  clear k10
  go_wp2_with fail
  go_ret
  exact ⟨rfl, K10.out⟩
end Go.Proofs.YthkjcgcfbodgbaaDoor
