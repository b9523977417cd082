/-
  arbaclaw03.KeccakSums returns true, over the contract of the reference's round.
-/
import Derived.Test.YtaoidabelclipaaDoorKecSu
import Derived.Test.YtaoidabelclipaaDoorKecEq
import Derived.Test.YtaoidabelclipaaDoorKecSh
import Derived.Test.YtaoidabelclipaaDoorKecK
namespace Go.Proofs.YtaoidabelclipaaDoor
open Go.RowKit

set_option maxRecDepth 100000 in
set_option maxHeartbeats 3200000 in
theorem sums_of (HR : RoundOk) (pa : Value) (xs : List Nat) (w : World) (hT : KTab w) (ha : InBytes w pa xs) :
    Calls Tryd.prog 3 #[pa] w fun e w' => e = .returned (.bool true) ∧ Kept (fun _ => False) w w' := by
  obtain ⟨aa, ca, hfa⟩ := ha.reads.form
  subst hfa
  have HT := Lib.hid hT
  have ra := short_in ha
  have la := take600 xs
  have ya : ∀ x ∈ xs.take 600, x < 256 := fun x hx => ha.byte x (List.mem_of_mem_take hx)
  have SA := fun (W : World) (hk : Kept (fun _ => False) w W) => short_any W aa xs ca (ha.reads.kept hk (fun _ _ h => h))
  generalize xs.take 600 = sa at *
  have HRA := Lib.hid ra; have HYA := Lib.hid ya; have HSA := Lib.hid SA
  have KS := Lib.hid (fun (W : World) (hk : Kept (fun _ => False) w W) => ksum_any W _ sa (HRA.out.kept hk (fun _ _ h => h)) HYA.out (HT.out.kept hk (fun _ _ h => h)) (by omega))
  have RS := Lib.hid (fun (W : World) (hk : Kept (fun _ => False) w W) => sum_of HR _ sa W (HRA.out.kept hk (fun _ _ h => h)) HYA.out (by omega))
  have EQ := Lib.hid (fun W => eqSame W sa)
  clear hT ha ra ya SA HR
  go_enter Tryd.func3, Tryd.ntmps3
  go_wp2_with fail
  refine (awake3_any w HT.out).mono ?_
  rintro e w0 ⟨rfl, k0⟩
  have K0 := Lib.hid k0
  clear k0
  go_wp2_with fail
  refine (HSA.out w0 K0.out).mono ?_
  rintro e w1 ⟨rfl, rfl⟩
  go_wp2_with fail
  refine (KS.out w0 K0.out).mono ?_
  rintro e w1 ⟨rfl, k1⟩
  have K1 := Lib.hid (K0.out.then k1)
  clear k1
  go_wp2_with fail
  refine (HSA.out w1 K1.out).mono ?_
  rintro e w2 ⟨rfl, rfl⟩
  go_wp2_with fail
  refine (RS.out w1 K1.out).mono ?_
  rintro e w2 ⟨rfl, k2⟩
  have K2 := Lib.hid (K1.out.then k2)
  have he := EQ.out w2
  clear k2
  go_wp2_with fail
  go_ret
  exact ⟨rfl, K2.out⟩
end Go.Proofs.YtaoidabelclipaaDoor
