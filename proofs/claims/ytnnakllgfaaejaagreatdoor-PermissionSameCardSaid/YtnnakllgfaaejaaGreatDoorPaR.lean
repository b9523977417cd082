/-
  The names of a path: arbacref07.split.
-/
import Derived.Test.YtnnakllgfaaejaaGreatDoorPaS
namespace Go.Proofs.YtnnakllgfaaejaaGreatDoor
open Go.RowKit
set_option linter.unusedSimpArgs false
set_option linter.unusedVariables false

theorem cutL_small : ∀ (l x : List UInt8), x ∈ cutL l → x.length ≤ l.length
  | [], x, h => by simp [cutL] at h; subst h; simp
  | c :: l, x, h => by
    have ih := cutL_small l
    by_cases hc : c = 47
    · subst hc
      rw [cutL_stroke] at h
      rcases List.mem_cons.1 h with rfl | h
      · simp
      · have := ih x h; simp only [List.length_cons]; omega
    · obtain ⟨y, t, e⟩ := cutL_cons l
      rw [cutL_char hc l y t e] at h
      rw [e] at ih
      rcases List.mem_cons.1 h with rfl | h
      · have := ih y (by simp); simp only [List.length_cons]; omega
      · have := ih x (List.mem_cons_of_mem _ h); simp only [List.length_cons]; omega

/-- What the reference's split answers. -/
structure RSplit (w w' : World) (s : ByteArray) (v : Value) : Prop where
  row : ∃ xs, Strs w' v xs ∧ xs.length ≤ 1000001 ∧ ∀ l, namesS s = some l → xs = l
  kept : Kept (fun _ => False) w w'
  own : ∀ k, v.ownBlock = some k → w.heap.size ≤ k

/-- The pieces before a place, and the one that is under way. -/
structure SpInv (W : World) (B : Nat) (ov : Value) (o : List ByteArray) (nm : ByteArray) (r : List UInt8) (k : Nat) : Prop where
  row : OwnS W B ov o
  cut : cutL (r.take k) = o.map (·.data.toList) ++ [nm.data.toList]
theorem SpInv.len {W : World} {B : Nat} {ov : Value} {o : List ByteArray} {nm : ByteArray} {r : List UInt8} {k : Nat} (h : SpInv W B ov o nm r k) : o.length ≤ r.length := by
  have h1 := congrArg List.length h.cut
  have h2 := cutL_len (r.take k)
  simp only [List.length_append, List.length_map, List.length_cons, List.length_nil] at h1
  rw [List.length_take] at h2
  omega

theorem SpInv.nm {W : World} {B : Nat} {ov : Value} {o : List ByteArray} {nm : ByteArray} {r : List UInt8} {k : Nat} (h : SpInv W B ov o nm r k) : nm.size ≤ r.length := by
  have h1 := cutL_small (r.take k) nm.data.toList (by rw [h.cut]; simp)
  rw [List.length_take] at h1
  have h2 : nm.size = nm.data.toList.length := rfl
  omega

theorem take_next (r : List UInt8) (k : Nat) (h : k < r.length) : r.take (k + 1) = r.take k ++ [r.getD k 0] := by
  rw [List.take_add_one, List.getD_eq_getElem?_getD, List.getElem?_eq_getElem h]
  rfl

theorem byte_at (s : ByteArray) (r : List UInt8) (h : s.data.toList = 47 :: r) (k : Nat) (hk : k < r.length) : bat s (k + 1) = (r.getD k 0).toNat ∧ (r.getD k 0 = 47 ↔ bat s (k + 1) = 47) := by
  have h1 : bat s (k + 1) = (r.getD k 0).toNat := by
    have hs : s.size = r.length + 1 := by show s.data.toList.length = _; rw [h]; rfl
    rw [bat_list s (k + 1) (by omega), h]
    simp [List.getD]
  refine ⟨h1, ?_⟩
  rw [h1]
  constructor
  · intro e; rw [e]; rfl
  · intro e; exact UInt8.toNat_inj.1 (by rw [e]; rfl)

theorem cat_data (a b : ByteArray) : (a ++ b).data.toList = a.data.toList ++ b.data.toList := by
  rw [ByteArray.data_append, Array.toList_append]
theorem one_data (s : ByteArray) (r : List UInt8) (h : s.data.toList = 47 :: r) (k : Nat) (hk : k < r.length) : (s.extract (k + 1) (k + 1 + 1)).data.toList = [r.getD k 0] := by
  rw [extract_list, h]
  have : (47 :: r : List UInt8).take (k + 1 + 1) = 47 :: (r.take k ++ [r.getD k 0]) := by rw [List.take_succ_cons, take_next r k hk]
  rw [this, List.drop_succ_cons, List.drop_append_of_le_length (by rw [List.length_take]; omega)]
  rw [List.drop_of_length_le (by rw [List.length_take]; omega)]
  rfl

end Go.Proofs.YtnnakllgfaaejaaGreatDoor
