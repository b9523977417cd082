/-
  names.Read: the table of bytes, or none.
-/
import Derived.Test.YtneappinkfhjmaaDoorNamRm
import Derived.Laws.OwnMore
namespace Go.Proofs.YtneappinkfhjmaaDoor
open Go.RowKit

theorem countS_le (p : List Nat) : (countS p 256 0).1 ≤ 256 := by
  rw [countS, if_pos rfl]
  unfold boundedS
  repeat' split
  all_goals first | exact Nat.zero_le _ | (simp only; omega)
theorem piece_short (xs : List Nat) (err : Int) : (pieceS xs 12 err).1.length ≤ 12 := by
  unfold pieceS
  repeat' split
  all_goals first | exact Nat.zero_le _ | (simp only [List.length_take, List.length_drop]; omega)
theorem strsK_short (xs : List Nat) (err : Int) : ∀ k, ∀ x ∈ (strsK xs err k).1, x.size ≤ 12
  | 0, x, hx => by simp [strsK] at hx
  | k + 1, x, hx => by
    rw [strsK] at hx
    rcases List.mem_append.1 hx with h | h
    · exact strsK_short xs err k x h
    · rw [List.mem_singleton] at h
      rw [h, strOf_size]
      exact piece_short _ _

set_option maxRecDepth 100000 in
set_option maxHeartbeats 800000 in
theorem rcount_any (w : World) (rb : Nat) (v : Value) (xs : List Nat) (h : Rd w rb v xs 0) (hby : ∀ b ∈ xs, b < 256) :
    Calls Tryd.prog 20 #[.pointer (some ⟨rb, 0, none⟩), .int .i64 256] w fun e w' => e = .returned (.int .i64 (countS xs 256 0).1) ∧
      ∃ v', Rd w' rb v' (countS xs 256 0).2.1 (countS xs 256 0).2.2 ∧ v'.ownBlock = v.ownBlock ∧ Kept (fun k => k = rb) w w' := by
  have hrf := readyFor_any w rb v xs 0 256 h
  rw [show forErr 256 0 = 0 from if_neg (by omega), show decide ((0 : Int) = 0) = true from rfl] at hrf
  have HB := Lib.hid (fun (W : World) (hr : Rd W rb v xs 0) => bounded_any W rb v xs 0 3 256 hr hby)
  have hle := countS_le xs
  rw [show countS xs 256 0 = boundedS xs 256 3 0 from if_pos rfl] at hle ⊢
  have HRF := Lib.hid hrf
  clear hrf h hby
  generalize boundedS xs 256 3 0 = q at HB hle ⊢
  obtain ⟨n, left, er⟩ := q
  simp only at HB hle ⊢
  have hw : IntKind.i64.wrap (n : Int) = (n : Int) := IntWalk.i64_in _ (by omega)
  go_enter Tryd.func20, Tryd.ntmps20
  go_wp2_with fail
  refine HRF.out.mono ?_
  rintro e w1 ⟨rfl, hr1, hk1⟩
  have HR1 := Lib.hid hr1; have HK1 := Lib.hid hk1
  clear hr1 hk1
  go_wp2_with fail
  refine (HB.out w1 HR1.out).mono ?_
  rintro e w2 ⟨rfl, v', hr, hv, hk⟩
  have HV := Lib.hid hv; have HR := Lib.hid hr
  have HK := Lib.hid (HK1.out.trans hk (T := fun k => k = rb) (fun _ _ h => h) (fun _ _ h => h))
  clear hv hr hk
  go_wp2_with fail
  go_ret
  exact ⟨rfl, v', HR.out, HV.out, HK.out⟩

/-- The strings that stand in Read's row behind k rounds. -/
def rowK (xs : List Nat) (err : Int) (n k : Nat) : List ByteArray := (strsK xs err k).1 ++ List.replicate (n - k) ⟨#[]⟩
theorem rowK_length (xs : List Nat) (err : Int) (n k : Nat) (h : k ≤ n) : (rowK xs err n k).length = n := by
  rw [rowK, List.length_append, strsK_length, List.length_replicate]; omega
theorem rowK_set (xs : List Nat) (err : Int) (n k : Nat) (h : k < n) : (rowK xs err n k).set k (strOf (pieceS (strsK xs err k).2.1 12 (strsK xs err k).2.2).1) = rowK xs err n (k + 1) := by
  have hl := strsK_length xs err k
  rw [rowK, rowK, strsK]
  simp only
  rw [List.set_append_right _ _ (by omega), hl, Nat.sub_self, show n - k = (n - (k + 1)) + 1 by omega, List.replicate_succ, List.set_cons_zero, List.append_assoc]
  rfl
theorem rowK_all (xs : List Nat) (err : Int) (n : Nat) : rowK xs err n n = (strsK xs err n).1 := by simp [rowK]
theorem sv_zero (n : Nat) : (madeCells #[Value.string ⟨#[]⟩] n).toList = (List.replicate n (⟨#[]⟩ : ByteArray)).map Value.string := by
  refine List.ext_getElem (by simp [madeCells]) fun i h1 h2 => ?_
  simp [madeCells, Nat.mod_one]

/-- What Read's loop keeps. -/
structure RdI (w wr : World) (rb gl : Nat) (xs : List Nat) (err : Int) (n k : Nat) : Prop where
  rd : ∃ v, Rd wr rb v (strsK xs err k).2.1 (strsK xs err k).2.2 ∧ (∀ j, v.ownBlock = some j → w.heap.size ≤ j ∧ j ≠ gl)
  row : wr.ownsRow w.heap.size 9 1 (.slice (some ⟨gl, 0, none⟩) n n) n ((rowK xs err n k).map Value.string)
  kept : Kept (fun _ => False) w wr
  rge : w.heap.size ≤ rb
  ne : gl ≠ rb

end Go.Proofs.YtneappinkfhjmaaDoor
