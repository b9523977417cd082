/-
  Permissions: Text. strings.TrimSuffix and CutSuffix laid at this seat's program.
-/
import Derived.Test.YtcooacjpblhblaaDoorPmSo
import Derived.Shelf.Strings.Prefix
import Derived.Shelf.Small.Wraps
import Derived.BigQuiet
namespace Go.Proofs.YtcooacjpblhblaaDoor
open Go.RowKit Go.Shelf
set_option linter.unusedSimpArgs false
set_option linter.unusedVariables false
set_option maxRecDepth 100000

def laysTrimS_ren : Go.Shelf.Ren := ⟨fun | 102 => 39 | 207 => 69 | 209 => 57 | n => n, fun | 3 => 3 | 4 => 4 | 9 => 9 | n => n, fun | n => n⟩
theorem laysTrimS : Go.Proofs.Lays.n102 Tryd.prog laysTrimS_ren := {
  mixed := by kernel_rfl
  f102 := Tryd.func39.trans (congrArg some (by kernel_rfl))
  f207 := Tryd.func69.trans (congrArg some (by kernel_rfl))
  f209 := Tryd.func57.trans (congrArg some (by kernel_rfl))
  t3 := Tryd.underlying3
  a3 := Tryd.isAgg3
  z3 := Tryd.sizeOf3
  v3 := Tryd.zeroValue3
  t4 := Tryd.underlying4
  a4 := Tryd.isAgg4
  z4 := Tryd.sizeOf4
  v4 := Tryd.zeroValue4
  t9 := Tryd.underlying9
  a9 := Tryd.isAgg9
  z9 := Tryd.sizeOf9
  v9 := Tryd.zeroValue9 }

def laysCutS_ren : Go.Shelf.Ren := ⟨fun | 104 => 41 | 207 => 69 | 211 => 59 | n => n, fun | 3 => 3 | 4 => 4 | 9 => 9 | 24 => 67 | n => n, fun | n => n⟩
theorem laysCutS : Go.Proofs.Lays.n104 Tryd.prog laysCutS_ren := {
  mixed := by kernel_rfl
  f104 := Tryd.func41.trans (congrArg some (by kernel_rfl))
  f207 := Tryd.func69.trans (congrArg some (by kernel_rfl))
  f211 := Tryd.func59.trans (congrArg some (by kernel_rfl))
  t3 := Tryd.underlying3
  a3 := Tryd.isAgg3
  z3 := Tryd.sizeOf3
  v3 := Tryd.zeroValue3
  t4 := Tryd.underlying4
  a4 := Tryd.isAgg4
  z4 := Tryd.sizeOf4
  v4 := Tryd.zeroValue4
  t9 := Tryd.underlying9
  a9 := Tryd.isAgg9
  z9 := Tryd.sizeOf9
  v9 := Tryd.zeroValue9
  t24 := Tryd.underlying67
  a24 := Tryd.isAgg67
  z24 := Tryd.sizeOf67
  v24 := Tryd.zeroValue67 }

/-- A text without a last stroke. -/
def trS (p : ByteArray) : ByteArray := ⟨(Lib.trimSuffix p.data.toList [47]).toArray⟩
theorem sh_Trim (p : ByteArray) (hp : p.size ≤ 1000000) (w : World) : Calls Tryd.prog 39 #[.string p, .string ⟨#[47]⟩] w fun e w' => e = .returned (.string (trS p)) ∧ w = w' :=
  (Any.strings_TrimSuffix laysTrimS p ⟨#[47]⟩ w (by omega)).mono fun _ _ ⟨h1, h2⟩ => ⟨h1, h2.symm⟩
theorem trS_size (p : ByteArray) : (trS p).size ≤ p.size := by
  show (Lib.trimSuffix p.data.toList [47]).toArray.size ≤ p.data.toList.length
  rw [List.size_toArray]
  unfold Lib.trimSuffix
  split
  · rw [List.length_take]; omega
  · exact Nat.le_refl _

/-- The text of a permission. -/
def txtP (x : Per) : ByteArray := if okP x then (if x.d then ((x.a ++ ⟨#[32]⟩) ++ trS x.p) ++ ⟨#[47, 42]⟩ else (x.a ++ ⟨#[32]⟩) ++ x.p) else ⟨#[]⟩

set_option maxHeartbeats 3200000 in
theorem ptext_any (x : Per) (hs : x.p.size ≤ 1000000) (w : World) :
    Calls Tryd.prog 21 #[perV x] w fun e w' => e = .returned (.string (txtP x)) ∧ Kept (fun _ => False) w w' := by
  have HO := Lib.hid (fun W => pok_any x hs W)
  have HT := Lib.hid (fun W => sh_Trim x.p hs W)
  obtain ⟨V, hV⟩ : ∃ V, V = txtP x := ⟨_, rfl⟩
  rw [← hV]
  unfold txtP at hV
  have hsm : okP x = true → x.a.size ≤ 12 ∧ x.p.size ≤ 10000 := fun h => okP_small h
  have htr := trS_size x.p
  obtain ⟨a, p, d⟩ := x
  unfold perV at *
  simp only at hV HT hsm htr
  generalize okP ⟨a, p, d⟩ = O at *
  generalize trS p = tp at *
  have HB := Lib.hid (Bx.new w a p d 27)
  have HK := Lib.hid (Kept.alloc (fun _ => False) w (.cells #[.string a, .string p, .bool d] 27))
  have HV := Lib.hid hV
  have HSM := Lib.hid hsm
  clear hs hV hsm
  go_enter Tryd.func21, Tryd.ntmps21
  go_wp2_with fail
  refine (HO.out _).mono ?_
  generalize w.alloc (.cells #[.string a, .string p, .bool d] 27) = W1 at *
  generalize w.heap.size = Q at *
  rintro e w2 ⟨rfl, k2⟩
  obtain ⟨c0, c1, c2⟩ := HB.out.stay k2
  have HK2 := Lib.hid (HK.out.then k2)
  clear k2 HO HB HK
  cases O with
  | false =>
    have hv : V = ⟨#[]⟩ := by rw [HV.out]; rfl
    subst hv
    go_wp2_with fail
    go_ret
    exact ⟨rfl, HK2.out⟩
  | true =>
    obtain ⟨h1, h2⟩ := HSM.out rfl
    have g1 : ¬ 9223372036854775807 < a.size + 1 := by omega
    cases d with
    | false =>
      have hv : V = (a ++ ⟨#[32]⟩) ++ p := by rw [HV.out]; rfl
      have g2 : ¬ 9223372036854775807 < a.size + 1 + p.size := by omega
      have HV2 := Lib.hid hv
      clear HV hv HSM htr h1 h2
      go_wp2_with fail
      go_ret
      exact ⟨by rw [HV2.out]; rfl, HK2.out⟩
    | true =>
      have hv : V = ((a ++ ⟨#[32]⟩) ++ tp) ++ ⟨#[47, 42]⟩ := by rw [HV.out]; rfl
      have g2 : ¬ 9223372036854775807 < a.size + 1 + tp.size := by omega
      have g3 : ¬ 9223372036854775807 < a.size + 1 + tp.size + 2 := by omega
      have HV2 := Lib.hid hv
      clear HV hv HSM htr h1 h2
      go_wp2_with fail
      go_quiet ((go_at_call 39; with_reducible exact Calls.quiet_of_same ((HT.out _).mono fun e w' h => ⟨h.1, h.2.symm⟩)))
      go_wp2_with fail
      go_ret
      exact ⟨by rw [HV2.out]; rfl, HK2.out.drewN nq⟩
end Go.Proofs.YtcooacjpblhblaaDoor
