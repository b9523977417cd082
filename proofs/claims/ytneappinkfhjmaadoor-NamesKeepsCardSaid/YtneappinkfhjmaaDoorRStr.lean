/-
  wire.Reader: String, Bytes, Flag.
-/
import Derived.Test.YtneappinkfhjmaaDoorPiece
import Derived.Test.YtneappinkfhjmaaDoorStrW
namespace Go.Proofs.YtneappinkfhjmaaDoor
open Go.RowKit

theorem pieceS_byte {xs : List Nat} (most err : Int) (h : ∀ b ∈ xs, b < 256) : (∀ b ∈ (pieceS xs most err).1, b < 256) ∧ (∀ b ∈ (pieceS xs most err).2.1, b < 256) := by
  unfold pieceS
  repeat' split
  all_goals first
    | exact ⟨by simp, h⟩
    | exact ⟨fun b hb => h b (List.mem_of_mem_drop (List.mem_of_mem_take hb)), fun b hb => h b (List.mem_of_mem_drop hb)⟩

set_option maxRecDepth 100000 in
set_option maxHeartbeats 400000 in
theorem rstring_any (w : World) (rb : Nat) (v : Value) (xs : List Nat) (err most : Int) (h : Rd w rb v xs err) (hby : ∀ b ∈ xs, b < 256) (hmost : Hid (most < 9223372036854775808)) :
    Calls Tryd.prog 21 #[.pointer (some ⟨rb, 0, none⟩), .int .i64 most] w fun e w' => e = .returned (.string (strOf (pieceS xs most err).1)) ∧
      ∃ v', Rd w' rb v' (pieceS xs most err).2.1 (pieceS xs most err).2.2 ∧ v'.ownBlock = v.ownBlock ∧ Kept (fun k => k = rb) w w' := by
  have hp := piece_any w rb v xs err most h hby hmost
  generalize pieceS xs most err = q at hp ⊢
  have HP := Lib.hid hp; clear hp
  clear h hby
  go_enter Tryd.func21, Tryd.ntmps21
  go_wp2_with fail
  refine HP.out.mono ?_
  rintro e w1 ⟨p, v', rfl, hr, _, hrd, hv, hk⟩
  have hs := reads_str hr
  have HV := Lib.hid hv; clear hv
  go_wp2_with fail
  go_ret
  exact ⟨rfl, v', hrd, HV.out, hk⟩

/-- What 'Flag' gives. -/
def flagS (xs : List Nat) (err : Int) : Bool × List Nat × Int :=
  if err ≠ 0 then (false, xs, err) else match xs with
    | [] => (false, [], 6)
    | b :: t => if 1 < b then (false, b :: t, 6) else (decide (b = 1), t, 0)

end Go.Proofs.YtneappinkfhjmaaDoor
