/-
  wire.Writer: Int, String, Raw, Bytes, Set.
-/
import Derived.Test.YtneappinkfhjmaaDoorUint
import Derived.Test.YtneappinkfhjmaaDoorBytes
import Derived.Test.YtneappinkfhjmaaDoorAppendS
import Derived.Maps.AppendAt
import Derived.Laws.AppendOwnNone
namespace Go.Proofs.YtneappinkfhjmaaDoor
open Go.RowKit

/-- The number that is written for one with a sign. -/
def zz (v : Int) : Nat := if v < 0 then 2 * (-(v + 1)).toNat + 1 else 2 * v.toNat

theorem zz_lt (v : Int) (hv : -9223372036854775808 ≤ v ∧ v < 9223372036854775808) : zz v < 18446744073709551616 := by
  unfold zz
  split <;> omega

theorem zz_neg (v : Int) (h0 : v < 0) (hv : -9223372036854775808 ≤ v ∧ v < 9223372036854775808) :
    bits .or .u64 (IntKind.u64.wrap (IntKind.u64.wrap (wrap64 (-wrap64 (v + 1))) * 2)) 1 = (zz v : Int) := by
  obtain ⟨m, hm⟩ : ∃ m : Nat, m = (-(v + 1)).toNat := ⟨_, rfl⟩
  have hz : zz v = 2 * m + 1 := by rw [zz, if_pos h0, hm]
  rw [hz, IntWalk.wrap64_in (v + 1) (by omega), IntWalk.wrap64_in _ (by omega), IntWalk.u64_in (-(v + 1)) (by omega), IntWalk.u64_in _ (by omega),
    show (-(v + 1)) * 2 = ((2 * m : Nat) : Int) by omega, show (1 : Int) = ((1 : Nat) : Int) from rfl, u64_or_nat _ _ (by omega) (by omega), nat_join 1 _ _ (by omega) (by omega)]

theorem zz_pos (m : Nat) (hv : -9223372036854775808 ≤ (m : Int) ∧ (m : Int) < 9223372036854775808) :
    IntKind.u64.wrap (IntKind.u64.wrap (m : Int) * 2) = (zz (m : Int) : Int) := by
  rw [zz, if_neg (by omega), Int.toNat_natCast, IntWalk.u64_in (m : Int) (by omega), IntWalk.u64_in _ (by omega)]
  omega

/-- Behind an append whose law says where the new row lies: the writer's cell is stored. -/
theorem wr_push2 {w w1 : World} {wb : Nat} {v v' : Value} {B : Nat} {xs ys : List Nat} {N m : Nat} (h : Wr w wb v B xs) (hN : xs.length = N) (hm : ys.length = m)
    (hown : w1.ownsRow B 5 1 v' (N + m) (bv xs ++ bv ys)) (hgrow : w.grownBy w1 v.ownBlock) (hat : v'.ownBlock = v.ownBlock ∨ v'.ownBlock = some w.heap.size) :
    Wr (w1.setCell ⟨wb, 0, none⟩ v') wb v' B (xs ++ ys) ∧ WStep w (w1.setCell ⟨wb, 0, none⟩ v') wb v v' := by
  subst hN hm
  refine wr_push h (Kept.refl _ _) hown hgrow (fun k hk => ?_) ?_
  · rcases hat with e | e
    · exact Or.inl (by rw [← e]; exact hk)
    · rw [e] at hk; cases hk; exact Or.inr (Nat.le_refl _)
  · rcases hat with e | e
    · exact Or.inl e.symm
    · exact Or.inr fun k hk => by rw [e] at hk; cases hk; exact Nat.le_refl _

theorem own_form {w : World} {B : Nat} {e : TypeId} {v : Value} {n : Nat} {xs : List Value} (h : w.ownsRow B e 1 v n xs) : ∃ a c, v = .slice a n c := by
  rcases h.2 with ⟨rfl, rfl⟩ | ⟨g, cap, cur, rfl, _⟩
  · exact ⟨_, _, rfl⟩
  · exact ⟨_, _, rfl⟩

/-- A string's bytes. -/
def strB (s : ByteArray) : List Nat := s.data.toList.map UInt8.toNat
theorem strB_cells (s : ByteArray) : Lib.strCells s = bv (strB s) := by simp [Lib.strCells, bv, strB]
theorem strB_length (s : ByteArray) : (strB s).length = s.size := by
  rw [strB, List.length_map, Array.length_toList]; rfl

set_option maxRecDepth 100000 in
set_option maxHeartbeats 400000 in
theorem string_any (s : ByteArray) (w : World) (wb : Nat) (v : Value) (B : Nat) (xs : List Nat) (h : Wr w wb v B xs) (hl : xs.length ≤ 90000000000000) (hy : s.size ≤ 40000000000000) (hB : B ≤ w.heap.size) :
    Calls Tryd.prog 63 #[.pointer (some ⟨wb, 0, none⟩), .string s] w fun e w' => e = .returned (.tuple #[]) ∧ ∃ v', Wr w' wb v' B (xs ++ (enc s.size ++ strB s)) ∧ WStep w w' wb v v' := by
  obtain ⟨i0, hi, hz0, hz1, hz2⟩ := info_parts info_u8
  have hlen := enc_len (v := s.size) (by omega)
  have HH := Lib.hid h; clear h
  have hw : IntKind.u64.wrap ((s.size : Nat) : Int) = ((s.size : Nat) : Int) := IntWalk.u64_in _ (by omega)
  go_enter Tryd.func63, Tryd.ntmps63
  go_wp2_with fail
  refine (uint_any s.size w wb v B xs HH.out (by omega) (by show s.size < 18446744073709551616; omega)).mono ?_
  rintro e w1 ⟨rfl, v1, hw1, hs1⟩
  have hB1 : B ≤ w1.heap.size := Nat.le_trans hB hs1.kept.size
  have hc := hw1.cell
  have hf := hw1.free
  have hap := hw1.apart
  have hwlt := hw1.lt
  obtain ⟨va, vc, hvf⟩ := own_form hw1.own
  have HW1 := Lib.hid hw1; clear hw1
  have HC := Lib.hid hc; have HF := Lib.hid hf
  generalize hN : (xs ++ enc s.size).length = N at hvf
  have hNle : N ≤ 90000000000010 := by rw [← hN]; simp; omega
  have hown := HW1.out.own
  rw [hN] at hown
  have HO := Lib.hid hown; clear hown
  have HN := Lib.hid hN; clear hN
  subst hvf
  go_wp2_with (at_builtin; refine wp_str_at _ rfl _ _ _ _ rfl B 5 i0 Tryd.underlying22 Tryd.underlying9 hi hz0 hz1 hz2 _ _ _ rfl HO.out s rfl (by omega) hB1 ?_)
  intro v' w2 hown1 hgrow hat
  have hcz : w2.cell? ⟨wb, 0, none⟩ = _ := (hgrow.cell_far ⟨wb, 0, none⟩ hwlt (Ne.symm hap)).trans HC.out
  have hfz : w2.frozen? ⟨wb, 0, none⟩ = false := (hgrow.frozen_far ⟨wb, 0, none⟩ hwlt (Ne.symm hap)).trans HF.out
  rw [strB_cells] at hown1
  have hpush := wr_push2 HW1.out HN.out (strB_length s) hown1 hgrow hat
  obtain ⟨va', vc', hvf'⟩ := own_form hown1
  rw [List.append_assoc] at hpush
  have HP := Lib.hid hpush; clear hpush hown1 hgrow hat
  subst hvf'
  go_wp2
  go_end0
  exact ⟨rfl, _, HP.out.1, hs1.trans HP.out.2⟩

end Go.Proofs.YtneappinkfhjmaaDoor
