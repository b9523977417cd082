/-
  Strings of bytes; wire.Writer.Flag.
-/
import Derived.Test.YtljjhdfackicpaaDoorMake
import Derived.Test.YtljjhdfackicpaaDoorWriter
namespace Go.Proofs.YtljjhdfackicpaaDoor
open Go.RowKit

/-- A string of bytes. -/
def strOf (xs : List Nat) : ByteArray := strOfNums (xs.map fun n : Nat => (n : Int))

theorem strOf_bytes {xs : List Nat} (h : ∀ b ∈ xs, b < 256) : strB (strOf xs) = xs := by
  unfold strB strOf
  rw [strOfNums_data, List.map_map, List.map_map]
  conv => rhs; rw [← List.map_id xs]
  refine List.map_congr_left fun b hb => ?_
  simp [Nat.mod_eq_of_lt (h b hb)]

theorem strOf_size (xs : List Nat) : (strOf xs).size = xs.length := by
  unfold strOf
  rw [strOfNums_size]; simp

/-- The encoding of a flag. -/
def encFlag (b : Bool) : List Nat := if b then [1] else [0]

set_option maxRecDepth 100000 in
set_option maxHeartbeats 400000 in
theorem wflag_any (b : Bool) (w : World) (wb : Nat) (v : Value) (B : Nat) (xs : List Nat) (h : Wr w wb v B xs) (hl : xs.length ≤ 100000000000000) :
    Calls Tryd.prog 106 #[.pointer (some ⟨wb, 0, none⟩), .bool b] w fun e w' => e = .returned (.tuple #[]) ∧ ∃ v', Wr w' wb v' B (xs ++ encFlag b) ∧ WStep w w' wb v v' := by
  have e1 : enc 1 = [1] := by rw [enc, show 1 / 128 = 0 from rfl, encHi_zero]; rfl
  have e0 : enc 0 = [0] := by rw [enc, show 0 / 128 = 0 from rfl, encHi_zero]; rfl
  have h1 := uint_any 1 w wb v B xs h hl (by show 1 < 18446744073709551616; omega)
  have h0 := uint_any 0 w wb v B xs h hl (by show 0 < 18446744073709551616; omega)
  rw [e1] at h1
  rw [e0] at h0
  have H1 := Lib.hid h1; have H0 := Lib.hid h0; clear h1 h0 e1 e0 h
  cases b with
  | true =>
    go_enter Tryd.func106, Tryd.ntmps106
    go_wp2_with fail
    refine H1.out.mono ?_
    rintro e w1 ⟨rfl, hp⟩
    have HP := Lib.hid hp; clear hp
    go_wp2
    go_end0
    exact ⟨rfl, HP.out⟩
  | false =>
    go_enter Tryd.func106, Tryd.ntmps106
    go_wp2_with fail
    refine H0.out.mono ?_
    rintro e w1 ⟨rfl, hp⟩
    have HP := Lib.hid hp; clear hp
    go_wp2
    go_end0
    exact ⟨rfl, HP.out⟩

end Go.Proofs.YtljjhdfackicpaaDoor
