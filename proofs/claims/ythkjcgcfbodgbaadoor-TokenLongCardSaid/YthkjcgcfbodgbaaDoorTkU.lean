/-
  Tokens: arbaclaw15.awake.
-/
import Derived.Test.YthkjcgcfbodgbaaDoorTkL
import Derived.Test.YthkjcgcfbodgbaaDoorTkO
namespace Go.Proofs.YthkjcgcfbodgbaaDoor
open Go.RowKit Go.Shelf
set_option linter.unusedSimpArgs false
set_option linter.unusedVariables false

def src1 : ByteArray := ⟨#[97, 115, 115, 105, 103, 110, 32, 114, 49, 32, 98, 121, 32, 97, 49, 32, 102, 111, 114, 32, 51, 48, 59, 32, 35, 32, 109, 111, 110, 116, 104, 108, 121]⟩
def src2 : ByteArray := ⟨#[49, 50, 120]⟩
def src3 : ByteArray := ⟨#[97, 32, 48, 48, 55]⟩
def src4 : ByteArray := ⟨#[114, 49, 32, 61, 32, 114, 50]⟩
def toks1 : List Tok := [⟨1, ⟨#[97, 115, 115, 105, 103, 110]⟩, 0, 0⟩, ⟨1, ⟨#[114, 49]⟩, 0, 7⟩, ⟨1, ⟨#[98, 121]⟩, 0, 10⟩, ⟨1, ⟨#[97, 49]⟩, 0, 13⟩, ⟨1, ⟨#[102, 111, 114]⟩, 0, 16⟩, ⟨2, ⟨#[51, 48]⟩, 30, 20⟩, ⟨3, ⟨#[59]⟩, 0, 22⟩, ⟨0, ⟨#[]⟩, 0, 33⟩]
theorem scan1 : scanS src1 = (toks1, 0, 0) := by kernel_rfl
theorem scan2 : scanS src2 = ([], 0, 8) := by kernel_rfl
theorem scan3 : scanS src3 = ([], 2, 8) := by kernel_rfl
theorem scan4 : scanS src4 = ([], 3, 8) := by kernel_rfl
theorem join1 : joinB (textsS (toks1.take 3)) = ⟨#[97, 115, 115, 105, 103, 110, 32, 114, 49, 32, 98, 121]⟩ := by kernel_rfl
theorem join1l : (joinL (textsS (toks1.take 3))).length ≤ 100000000 := by
  have : (joinL (textsS (toks1.take 3))).length = 12 := by kernel_rfl
  omega
theorem join1t : (toks1.take 3).length ≤ 100000 := by
  have : (toks1.take 3).length = 3 := by kernel_rfl
  omega

set_option maxRecDepth 100000 in
set_option maxHeartbeats 3200000 in
theorem awake15_any (w : World) (hS : Sym w) : Calls Tryd.prog 10 #[] w fun e w' => e = .returned (.bool true) ∧ Kept (fun _ => False) w w' := by
  have H1 := Lib.hid (fun W hW => tscan_any src1 W (by decide) hW)
  have H2 := Lib.hid (fun W hW => tscan_any src2 W (by decide) hW)
  have H3 := Lib.hid (fun W hW => tscan_any src3 W (by decide) hW)
  have H4 := Lib.hid (fun W hW => tscan_any src4 W (by decide) hW)
  simp only [scan1] at H1
  simp only [scan2] at H2
  simp only [scan3] at H3
  simp only [scan4] at H4
  unfold src1 at H1
  unfold src2 at H2
  unfold src3 at H3
  unfold src4 at H4
  have HS := Lib.hid hS
  clear hS
  go_enter Tryd.func10, Tryd.ntmps10
  go_wp2_with fail
  refine (H1.out _ HS.out).mono ?_
  rintro e w1 ⟨v1, rfl, o1, k1⟩
  have T1 := Lib.hid o1.toks
  obtain ⟨a, c, rfl, hc1, hc2⟩ := o1.form
  change 8 ≤ c at hc1
  have hc3 : (8 : Int) ≤ (c : Int) := by omega
  change Hid (Toks _ _ (.slice a 8 c) _) at T1
  have hlen : toks1.length = 8 := rfl
  have K1 := Lib.hid k1
  clear o1 k1
  rw [hlen]
  clear hlen
  go_wp2_with fail
  refine (H2.out _ (HS.out.kept K1.out (fun h => h))).mono ?_
  rintro e w2 ⟨v2, rfl, _, k2⟩
  have K2 := Lib.hid (K1.out.then k2)
  have T2 := Lib.hid (T1.out.kept k2 (fun _ _ h => h))
  clear k2 T1
  go_wp2_with fail
  refine (H3.out _ (HS.out.kept K2.out (fun h => h))).mono ?_
  rintro e w3 ⟨v3, rfl, _, k3⟩
  have K3 := Lib.hid (K2.out.then k3)
  have T3 := Lib.hid (T2.out.kept k3 (fun _ _ h => h))
  clear k3 T2
  go_wp2_with fail
  refine (H4.out _ (HS.out.kept K3.out (fun h => h))).mono ?_
  rintro e w4 ⟨v4, rfl, _, k4⟩
  have K4 := Lib.hid (K3.out.then k4)
  have T4 := Lib.hid (T3.out.kept k4 (fun _ _ h => h))
  clear k4 T3
  obtain ⟨g, off, ha, hg, c0, c1, c2, c3⟩ := T4.out.at (k := 5) (by decide)
  subst ha
  obtain ⟨g', off', hb, _, d0, d1, d2, d3⟩ := T4.out.at (k := 7) (by decide)
  cases hb
  have HJ := Lib.hid (tjoin_any _ _ w4 (T4.out.cut 3 (by decide)) join1t join1l)
  rw [join1] at HJ
  change w4.cell? ⟨g, off + 20, none⟩ = some (.int .u8 2) at c0
  change w4.cell? ⟨g, off + 21, none⟩ = some (.string ⟨#[51, 48]⟩) at c1
  change w4.cell? ⟨g, off + 22, none⟩ = some (.int .i64 30) at c2
  change w4.cell? ⟨g, off + 23, none⟩ = some (.int .i64 20) at c3
  change w4.cell? ⟨g, off + 28, none⟩ = some (.int .u8 0) at d0
  change w4.cell? ⟨g, off + 29, none⟩ = some (.string ⟨#[]⟩) at d1
  change w4.cell? ⟨g, off + 30, none⟩ = some (.int .i64 0) at d2
  change w4.cell? ⟨g, off + 31, none⟩ = some (.int .i64 33) at d3
  have p3 : (3 : Int) ≤ (c : Int) := by omega
  have p30 : 3 ≤ c := by omega
  go_wp2_with fail
  refine HJ.out.mono ?_
  rintro e w5 ⟨rfl, k5⟩
  have K5 := Lib.hid (K4.out.then k5)
  clear k5
  go_wp2_with fail
  go_ret
  exact ⟨rfl, K5.out⟩
end Go.Proofs.YthkjcgcfbodgbaaDoor
