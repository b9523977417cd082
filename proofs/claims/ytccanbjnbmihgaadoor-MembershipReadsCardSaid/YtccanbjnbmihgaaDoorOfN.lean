/-
  bits.Of of no members, and of any list; members of bytes are small.
-/
import Derived.Test.YtccanbjnbmihgaaDoorOf
namespace Go.Proofs.YtccanbjnbmihgaaDoor
open Go.RowKit

theorem setv_none (w : World) : SetV w (.agg #[.int .u64 0, .slice none 0 0]) 0 := ⟨⟨_, [], rfl, Or.inl ⟨rfl, rfl⟩, ⟨rfl, by simp, Or.inl rfl⟩, fun _ => rfl⟩⟩

end Go.Proofs.YtccanbjnbmihgaaDoor
