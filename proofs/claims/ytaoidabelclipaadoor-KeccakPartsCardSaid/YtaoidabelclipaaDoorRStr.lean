/-
  wire.Reader: String, Bytes, Flag.
-/
import Derived.Test.YtaoidabelclipaaDoorPiece
import Derived.Test.YtaoidabelclipaaDoorStrW
namespace Go.Proofs.YtaoidabelclipaaDoor
open Go.RowKit

theorem pieceS_byte {xs : List Nat} (most err : Int) (h : ∀ b ∈ xs, b < 256) : (∀ b ∈ (pieceS xs most err).1, b < 256) ∧ (∀ b ∈ (pieceS xs most err).2.1, b < 256) := by
  unfold pieceS
  repeat' split
  all_goals first
    | exact ⟨by simp, h⟩
    | exact ⟨fun b hb => h b (List.mem_of_mem_drop (List.mem_of_mem_take hb)), fun b hb => h b (List.mem_of_mem_drop hb)⟩

set_option maxRecDepth 100000 in
set_option maxHeartbeats 400000 in
theorem rstring_any (w : World) (rb : Nat) (v : Value) (xs : List Nat) (err most : Int) (h : Rd w rb v xs err) (hby : ∀ b ∈ xs, b < 256) (hmost : Hid (most < 9223372036854775808)) :
    Calls Tryd.prog 27 #[.pointer (some ⟨rb, 0, none⟩), .int .i64 most] w fun e w' => e = .returned (.string (strOf (pieceS xs most err).1)) ∧
      ∃ v', Rd w' rb v' (pieceS xs most err).2.1 (pieceS xs most err).2.2 ∧ v'.ownBlock = v.ownBlock ∧ Kept (fun k => k = rb) w w' := by
  have hp := piece_any w rb v xs err most h hby hmost
  generalize pieceS xs most err = q at hp ⊢
  have HP := Lib.hid hp; clear hp
  clear h hby
  go_enter Tryd.func27, Tryd.ntmps27
  go_wp2_with fail
  refine HP.out.mono ?_
  rintro e w1 ⟨p, v', rfl, hr, _, hrd, hv, hk⟩
  have hs := reads_str hr
  have HV := Lib.hid hv; clear hv
  go_wp2_with fail
  go_ret
  exact ⟨rfl, v', hrd, HV.out, hk⟩

set_option maxRecDepth 100000 in
set_option maxHeartbeats 400000 in
theorem rbytes_any (w : World) (rb : Nat) (v : Value) (xs : List Nat) (err most : Int) (h : Rd w rb v xs err) (hby : ∀ b ∈ xs, b < 256) (hmost : Hid (most < 9223372036854775808)) (hl : (pieceS xs most err).1.length ≤ 140737488355328) :
    Calls Tryd.prog 28 #[.pointer (some ⟨rb, 0, none⟩), .int .i64 most] w fun e w' => ∃ q v', e = .returned q ∧ Fresh w' w.heap.size q (pieceS xs most err).1 ∧
      Rd w' rb v' (pieceS xs most err).2.1 (pieceS xs most err).2.2 ∧ v'.ownBlock = v.ownBlock ∧ Kept (fun k => k = rb) w w' := by
  have hp := piece_any w rb v xs err most h hby hmost
  have hblt := h.lt
  have hvlt := h.reads.lt
  generalize pieceS xs most err = q at hp hl ⊢
  have HP := Lib.hid hp; clear hp
  clear h hby
  go_enter Tryd.func28, Tryd.ntmps28
  go_wp2_with fail
  refine HP.out.mono ?_
  rintro e w1 ⟨p, v', rfl, hr, _, hrd, hv, hk⟩
  have HV := Lib.hid hv; clear hv
  go_wp2_with fail
  refine (clone_any p _ w1 hr hl).mono ?_
  rintro e w2 ⟨c, rfl, hf, hk2⟩
  go_wp2_with fail
  go_ret
  refine ⟨c, v', rfl, ⟨?_, fun k hk' => Nat.le_trans hk.size (hf.block k hk')⟩, hrd.kept hk2 (fun h => h) (fun _ _ h => h), HV.out, hk.trans hk2 (fun _ _ h => h) (fun _ _ h => h.elim)⟩
  have ho := hf.own
  refine ⟨ho.1, ?_⟩
  rcases ho.2 with h2 | ⟨g, cap, cur, hv, hg, r⟩
  · exact Or.inl h2
  · exact Or.inr ⟨g, cap, cur, hv, Nat.le_trans hk.size hg, r⟩

/-- What 'Flag' gives. -/
def flagS (xs : List Nat) (err : Int) : Bool × List Nat × Int :=
  if err ≠ 0 then (false, xs, err) else match xs with
    | [] => (false, [], 6)
    | b :: t => if 1 < b then (false, b :: t, 6) else (decide (b = 1), t, 0)

end Go.Proofs.YtaoidabelclipaaDoor
