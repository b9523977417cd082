/-
  The reference's round keeps its contract; so arbaclaw03.KeccakSums returns true.
-/
import Derived.Test.YtaoidabelclipaaDoorKecSl
import Derived.Test.YtaoidabelclipaaDoorKecRd
namespace Go.Proofs.YtaoidabelclipaaDoor
open Go.RowKit

theorem round_ok : RoundOk := fun W g s c h25 hb h hg hc => round_any W g 0 25 c s h25 hb h hg hc
theorem sums_any (pa : Value) (xs : List Nat) (w : World) (hT : KTab w) (ha : InBytes w pa xs) :
    Calls Tryd.prog 3 #[pa] w fun e w' => e = .returned (.bool true) ∧ Kept (fun _ => False) w w' := sums_of round_ok pa xs w hT ha
end Go.Proofs.YtaoidabelclipaaDoor
