/-
  Plain words: what 'back' gives of a written value, whole or cut off.
-/
import Derived.Test.YtknphfednknajabBackV
import Derived.Test.YtknphfednknajabRInt
namespace Go.Proofs.Ytknphfednknajab
open Go.RowKit

theorem numLoop_high : ∀ (p : List Nat) (v i : Nat), (∀ b ∈ p, 128 ≤ b) → (numLoop v i p).2 = 0
  | [], v, i, _ => by simp [numLoop]
  | b :: t, v, i, h => by
    have hb := h b List.mem_cons_self
    have ht := fun v' i' => numLoop_high t v' i' fun x hx => h x (List.mem_cons_of_mem _ hx)
    unfold numLoop
    repeat' split
    all_goals first
      | rfl
      | omega
      | exact ht _ _

theorem numberS_cut {v m : Nat} (h : m < (enc v).length) : (numberS ((enc v).take m)).2 = 0 := by
  have hl : (enc v).length = (encHi (v / 128)).length + 1 := by simp [enc]
  have ht : (enc v).take m = (encHi (v / 128)).take m := by rw [enc, List.take_append_of_le_length (by omega)]
  rw [ht]
  have hb : ∀ b ∈ (encHi (v / 128)).take m, 128 ≤ b := fun b hb => (encHi_byte (v / 128) (v / 128) (Nat.le_refl _) b (List.mem_of_mem_take hb)).1
  unfold numberS
  split
  · rfl
  · exact numLoop_high _ _ _ hb

theorem pieceS_cut {ys : List Nat} {m : Nat} (most : Int) (hm : (ys.length : Int) ≤ most) (hl : ys.length < 18446744073709551616) (h : m < (enc ys.length ++ ys).length) :
    pieceS ((enc ys.length ++ ys).take m) most 0 = ([], (enc ys.length ++ ys).take m, 6) := by
  rw [pieceS, if_neg (by simp), if_neg (by omega)]
  by_cases hc : m < (enc ys.length).length
  · rw [List.take_append_of_le_length (by omega), numberS_cut hc, if_pos rfl]
  · have ht : (enc ys.length ++ ys).take m = enc ys.length ++ ys.take (m - (enc ys.length).length) := by
      rw [List.take_append, List.take_of_length_le (by omega)]
    have hpos := enc_pos ys.length
    rw [ht, numberS_enc _ hl]
    simp only
    rw [if_neg (by omega), if_neg (by omega), if_pos]
    simp only [List.length_append, List.length_take] at h ⊢
    omega

theorem encV_pos (c U : Nat) (S : Int) (bs : List Nat) (h5 : c ≠ 5) : 0 < (encV c U S bs).length := by
  have h1 := enc_pos U
  have h2 := enc_pos (zz S)
  have h3 := enc_pos bs.length
  have h4 := enc_pos (bytesOf (maskOf (membersOf bs))).length
  unfold encV encFlag
  repeat' split
  all_goals first
    | assumption
    | (exfalso; omega)
    | (simp only [List.length_append]; omega)
    | simp

theorem encV_byte (c U : Nat) (S : Int) (bs : List Nat) (hb : ∀ b ∈ bs, b < 256) : ∀ b ∈ encV c U S bs, b < 256 := by
  have happ : ∀ (n : Nat) (l : List Nat), (∀ b ∈ l, b < 256) → ∀ b ∈ enc n ++ l, b < 256 := fun n l hl b h => by
    rcases List.mem_append.1 h with h | h
    · exact enc_byte n b h
    · exact hl b h
  unfold encV encFlag
  repeat' split
  all_goals first
    | exact enc_byte _
    | exact happ _ _ hb
    | exact hb
    | exact happ _ _ (bytesOf_byte _)
    | simp

theorem encV_len (c U : Nat) (S : Int) (bs : List Nat) (hl : bs.length ≤ 300) (hU : U < 18446744073709551616) (hS : -9223372036854775808 ≤ S ∧ S < 9223372036854775808) : (encV c U S bs).length ≤ 1000 := by
  have h1 := enc_len hU
  have h2 := enc_len (zz_lt S hS)
  have h3 := enc_len (v := bs.length) (by omega)
  have h5 := bytesOf_length (maskOf_small (membersOf bs))
  have h4 := enc_len (v := (bytesOf (maskOf (membersOf bs))).length) (by omega)
  unfold encV encFlag
  repeat' split
  all_goals first
    | omega
    | (simp only [List.length_append]; omega)
    | simp

/-- A written value is read back. -/
theorem backS_enc (c U : Nat) (S : Int) (bs rest : List Nat) (hc : c < 7) (h5 : c ≠ 5) (hl : bs.length ≤ 300) (hU : U < 18446744073709551616) (hS : -9223372036854775808 ≤ S ∧ S < 9223372036854775808) :
    backS c U S bs (encV c U S bs ++ rest) = (true, rest, 0) := by
  have hk : c = 0 ∨ c = 1 ∨ c = 2 ∨ c = 3 ∨ c = 4 ∨ c = 6 := by omega
  rcases hk with rfl | rfl | rfl | rfl | rfl | rfl
  · have h1 := numberS_enc rest hU
    have h2 := enc_pos U
    have e : uintS (enc U ++ rest) U 0 = (U, rest, 0) := by
      rw [uintS, if_pos rfl, boundedS, h1]
      simp only
      rw [if_neg (by omega), if_neg (by omega), List.drop_left]
    show (decide ((uintS (enc U ++ rest) U 0).1 = U), (uintS (enc U ++ rest) U 0).2) = _
    rw [e]; simp
  · have h1 := numberS_enc rest (zz_lt S hS)
    have h2 := enc_pos (zz S)
    have e : intS (enc (zz S) ++ rest) S S 0 = (S, rest, 0) := by
      rw [intS, if_neg (by simp), if_neg (by omega), h1]
      simp only [unzz_zz]
      rw [if_neg (by omega), if_neg (by omega), List.drop_left]
    show (decide ((intS (enc (zz S) ++ rest) S S 0).1 = S), (intS (enc (zz S) ++ rest) S S 0).2) = _
    rw [e]; simp
  · show (decide ((pieceS ((enc bs.length ++ bs) ++ rest) bs.length 0).1 = bs), (pieceS ((enc bs.length ++ bs) ++ rest) bs.length 0).2) = _
    rw [pieceS_enc bs rest bs.length (by omega) (by omega)]; simp
  · show (decide ((pieceS ((enc bs.length ++ bs) ++ rest) bs.length 0).1 = bs), (pieceS ((enc bs.length ++ bs) ++ rest) bs.length 0).2) = _
    rw [pieceS_enc bs rest bs.length (by omega) (by omega)]; simp
  · show (decide ((flagS (encFlag (decide (U % 2 = 1)) ++ rest) 0).1 = decide (U % 2 = 1)), (flagS (encFlag (decide (U % 2 = 1)) ++ rest) 0).2) = _
    cases decide (U % 2 = 1) <;> simp [encFlag, flagS]
  · show (decide ((setS ((enc (bytesOf (maskOf (membersOf bs))).length ++ bytesOf (maskOf (membersOf bs))) ++ rest) 4095 0).1 = maskOf (membersOf bs)), (setS ((enc (bytesOf (maskOf (membersOf bs))).length ++ bytesOf (maskOf (membersOf bs))) ++ rest) 4095 0).2) = _
    have hsm := maskOf_small (membersOf bs)
    rw [setS_enc rest 4095 hsm, if_neg]
    · simp
    · rintro ⟨h0, h1⟩
      have := log2_small hsm h0
      omega

/-- A written value that is cut off is refused, and nothing is taken. -/
theorem backS_cut (c U m : Nat) (S : Int) (bs : List Nat) (hc : c < 7) (h5 : c ≠ 5) (hl : bs.length ≤ 300) (hm : m < (encV c U S bs).length) :
    (backS c U S bs ((encV c U S bs).take m)).2 = ((encV c U S bs).take m, 6) := by
  have hk : c = 0 ∨ c = 1 ∨ c = 2 ∨ c = 3 ∨ c = 4 ∨ c = 6 := by omega
  rcases hk with rfl | rfl | rfl | rfl | rfl | rfl
  · have h1 : (numberS ((enc U).take m)).2 = 0 := numberS_cut hm
    show (uintS ((enc U).take m) U 0).2 = ((enc U).take m, 6)
    rw [uintS, if_pos rfl, boundedS, if_pos h1]
  · have h1 : (numberS ((enc (zz S)).take m)).2 = 0 := numberS_cut hm
    show (intS ((enc (zz S)).take m) S S 0).2 = ((enc (zz S)).take m, 6)
    rw [intS, if_neg (by simp), if_neg (by omega), if_pos h1]
  · show (pieceS ((enc bs.length ++ bs).take m) bs.length 0).2 = _
    rw [pieceS_cut bs.length (by omega) (by omega) hm]; rfl
  · show (pieceS ((enc bs.length ++ bs).take m) bs.length 0).2 = _
    rw [pieceS_cut bs.length (by omega) (by omega) hm]; rfl
  · have h1 : m = 0 := by
      have : m < (encFlag (decide (U % 2 = 1))).length := hm
      have h2 : (encFlag (decide (U % 2 = 1))).length = 1 := by unfold encFlag; split <;> rfl
      omega
    subst h1
    rfl
  · have hbl := bytesOf_length (maskOf_small (membersOf bs))
    show (setS ((enc (bytesOf (maskOf (membersOf bs))).length ++ bytesOf (maskOf (membersOf bs))).take m) 4095 0).2 = _
    have hp := pieceS_cut (ys := bytesOf (maskOf (membersOf bs))) 512 (by omega) (by omega) hm
    rw [setS, if_neg (by simp), hp]
    rfl

end Go.Proofs.Ytknphfednknajab
