/-
  wire.Writer: Int, String, Raw, Bytes, Set.
-/
import Derived.Test.YtnmcihfegbdipaaDoorUint
import Derived.Test.YtnmcihfegbdipaaDoorBytes
import Derived.Test.YtnmcihfegbdipaaDoorAppendS
import Derived.Maps.AppendAt
import Derived.Laws.AppendOwnNone
namespace Go.Proofs.YtnmcihfegbdipaaDoor
open Go.RowKit

/-- The number that is written for one with a sign. -/
def zz (v : Int) : Nat := if v < 0 then 2 * (-(v + 1)).toNat + 1 else 2 * v.toNat

theorem zz_lt (v : Int) (hv : -9223372036854775808 ≤ v ∧ v < 9223372036854775808) : zz v < 18446744073709551616 := by
  unfold zz
  split <;> omega

theorem zz_neg (v : Int) (h0 : v < 0) (hv : -9223372036854775808 ≤ v ∧ v < 9223372036854775808) :
    bits .or .u64 (IntKind.u64.wrap (IntKind.u64.wrap (wrap64 (-wrap64 (v + 1))) * 2)) 1 = (zz v : Int) := by
  obtain ⟨m, hm⟩ : ∃ m : Nat, m = (-(v + 1)).toNat := ⟨_, rfl⟩
  have hz : zz v = 2 * m + 1 := by rw [zz, if_pos h0, hm]
  rw [hz, IntWalk.wrap64_in (v + 1) (by omega), IntWalk.wrap64_in _ (by omega), IntWalk.u64_in (-(v + 1)) (by omega), IntWalk.u64_in _ (by omega),
    show (-(v + 1)) * 2 = ((2 * m : Nat) : Int) by omega, show (1 : Int) = ((1 : Nat) : Int) from rfl, u64_or_nat _ _ (by omega) (by omega), nat_join 1 _ _ (by omega) (by omega)]

theorem zz_pos (m : Nat) (hv : -9223372036854775808 ≤ (m : Int) ∧ (m : Int) < 9223372036854775808) :
    IntKind.u64.wrap (IntKind.u64.wrap (m : Int) * 2) = (zz (m : Int) : Int) := by
  rw [zz, if_neg (by omega), Int.toNat_natCast, IntWalk.u64_in (m : Int) (by omega), IntWalk.u64_in _ (by omega)]
  omega

set_option maxRecDepth 100000 in
set_option maxHeartbeats 400000 in
theorem int_any (v : Int) (w : World) (wb : Nat) (u : Value) (B : Nat) (xs : List Nat) (h : Wr w wb u B xs) (hl : xs.length ≤ 100000000000000) (hv : Hid (-9223372036854775808 ≤ v ∧ v < 9223372036854775808)) :
    Calls Tryd.prog 52 #[.pointer (some ⟨wb, 0, none⟩), .int .i64 v] w fun e w' => e = .returned (.tuple #[]) ∧
      ∃ v', Wr w' wb v' B (xs ++ enc (zz v)) ∧ WStep w w' wb u v' := by
  have HH := Lib.hid h; clear h
  by_cases h0 : v < 0
  · go_enter Tryd.func52, Tryd.ntmps52
    go_wp2_with fail
    rw [zz_neg v h0 hv.out]
    refine (uint_any (zz v) w wb u B xs HH.out hl (zz_lt v hv.out)).mono ?_
    rintro e w1 ⟨rfl, hp⟩
    have HP := Lib.hid hp; clear hp
    go_wp2
    go_end0
    exact ⟨rfl, HP.out⟩
  · obtain ⟨m, hm⟩ := Int.eq_ofNat_of_zero_le (show 0 ≤ v by omega)
    subst hm
    go_enter Tryd.func52, Tryd.ntmps52
    go_wp2_with fail
    rw [zz_pos m hv.out]
    refine (uint_any (zz m) w wb u B xs HH.out hl (zz_lt m hv.out)).mono ?_
    rintro e w1 ⟨rfl, hp⟩
    have HP := Lib.hid hp; clear hp
    go_wp2
    go_end0
    exact ⟨rfl, HP.out⟩

/-- Behind an append whose law says where the new row lies: the writer's cell is stored. -/
theorem wr_push2 {w w1 : World} {wb : Nat} {v v' : Value} {B : Nat} {xs ys : List Nat} {N m : Nat} (h : Wr w wb v B xs) (hN : xs.length = N) (hm : ys.length = m)
    (hown : w1.ownsRow B 5 1 v' (N + m) (bv xs ++ bv ys)) (hgrow : w.grownBy w1 v.ownBlock) (hat : v'.ownBlock = v.ownBlock ∨ v'.ownBlock = some w.heap.size) :
    Wr (w1.setCell ⟨wb, 0, none⟩ v') wb v' B (xs ++ ys) ∧ WStep w (w1.setCell ⟨wb, 0, none⟩ v') wb v v' := by
  subst hN hm
  refine wr_push h (Kept.refl _ _) hown hgrow (fun k hk => ?_) ?_
  · rcases hat with e | e
    · exact Or.inl (by rw [← e]; exact hk)
    · rw [e] at hk; cases hk; exact Or.inr (Nat.le_refl _)
  · rcases hat with e | e
    · exact Or.inl e.symm
    · exact Or.inr fun k hk => by rw [e] at hk; cases hk; exact Nat.le_refl _

theorem own_form {w : World} {B : Nat} {e : TypeId} {v : Value} {n : Nat} {xs : List Value} (h : w.ownsRow B e 1 v n xs) : ∃ a c, v = .slice a n c := by
  rcases h.2 with ⟨rfl, rfl⟩ | ⟨g, cap, cur, rfl, _⟩
  · exact ⟨_, _, rfl⟩
  · exact ⟨_, _, rfl⟩

set_option maxRecDepth 100000 in
set_option maxHeartbeats 400000 in
theorem raw_any (p : Value) (ys : List Nat) (w : World) (wb : Nat) (v : Value) (B : Nat) (xs : List Nat) (h : Wr w wb v B xs) (hp : Reads w p ys) (hl : xs.length + ys.length ≤ 140000000000000) (hB : B ≤ w.heap.size) :
    Calls Tryd.prog 109 #[.pointer (some ⟨wb, 0, none⟩), p] w fun e w' => e = .returned (.tuple #[]) ∧ ∃ v', Wr w' wb v' B (xs ++ ys) ∧ WStep w w' wb v v' := by
  obtain ⟨i0, hi, hz0, hz1, hz2⟩ := info_parts info_u8
  have hc := h.cell
  have hf := h.free
  obtain ⟨va, vc, hvf⟩ := own_form h.own
  have HH := Lib.hid h; clear h
  rcases hp with ⟨rfl, rfl⟩ | ⟨g, off, cap, rfl, h1, h2, h3, h4⟩
  · rw [List.append_nil]
    subst hvf
    go_enter Tryd.func109, Tryd.ntmps109
    go_wp2_with (at_builtin; refine wpList_append_own_none rfl _ _ _ rfl B 5 i0 1 Tryd.underlying38 hi _ _ _ rfl HH.out.own rfl ?_)
    go_wp2
    go_end0
    have hpush := wr_push2 (ys := []) HH.out rfl rfl (w1 := w) (v' := .slice va xs.length vc) (by simpa [bv] using HH.out.own) ⟨rfl, rfl, rfl, Nat.le_refl _, fun _ _ _ => rfl⟩ (Or.inl rfl)
    rw [List.append_nil] at hpush
    exact ⟨rfl, _, hpush.1, hpush.2⟩
  · have hnews : ∀ j u, (bv ys)[j]? = some u → w.cell? ((⟨g, off, none⟩ : Addr).add j) = some u := fun j u hu => by
      have hadd : (⟨g, off, none⟩ : Addr).add j = ⟨g, off + j, none⟩ := by unfold Addr.add; split <;> simp_all
      have hj : j < ys.length := by
        have := (List.getElem?_eq_some_iff.1 hu).1
        rwa [bv_length] at this
      rw [hadd, h4 j hj, ← bv_getD ys j hj]; exact hu
    have HNE := Lib.hid hnews; clear hnews h4
    have hap := HH.out.apart
    have hwlt := HH.out.lt
    have HC := Lib.hid hc; have HF := Lib.hid hf
    have HV := Lib.hid hvf
    subst hvf
    go_enter Tryd.func109, Tryd.ntmps109
    go_wp2_with (at_builtin; refine wpList_append_own_at _ rfl _ _ _ rfl B 5 i0 _ 1 1 Tryd.underlying38 hi hz0 hz1 hz2 rfl (by omega) _ _ _ rfl HH.out.own ⟨g, off, none⟩ ys.length cap (bv ys) rfl (by simp [bv_length]) HNE.out (bv_oneCell _) (by unfold maxLen; omega) (by omega) hB ?_)
    intro v' w1 hown1 hgrow _ hat
    have hcz : w1.cell? ⟨wb, 0, none⟩ = _ := (hgrow.cell_far ⟨wb, 0, none⟩ hwlt (Ne.symm hap)).trans HC.out
    have hfz : w1.frozen? ⟨wb, 0, none⟩ = false := (hgrow.frozen_far ⟨wb, 0, none⟩ hwlt (Ne.symm hap)).trans HF.out
    have hpush := wr_push2 HH.out rfl rfl hown1 hgrow hat
    obtain ⟨va', vc', hvf'⟩ := own_form hown1
    have HP := Lib.hid hpush; clear hpush hown1 hgrow hat
    subst hvf'
    go_wp2
    go_end0
    exact ⟨rfl, _, HP.out.1, HP.out.2⟩

set_option maxRecDepth 100000 in
set_option maxHeartbeats 400000 in
theorem wbytes_any (p : Value) (ys : List Nat) (w : World) (wb : Nat) (v : Value) (B : Nat) (xs : List Nat) (h : Wr w wb v B xs) (hp : Reads w p ys) (hpb : ∀ k, p.ownBlock = some k → k ≠ wb ∧ v.ownBlock ≠ some k)
    (hl : xs.length ≤ 90000000000000) (hy : ys.length ≤ 40000000000000) (hB : B ≤ w.heap.size) :
    Calls Tryd.prog 88 #[.pointer (some ⟨wb, 0, none⟩), p] w fun e w' => e = .returned (.tuple #[]) ∧ ∃ v', Wr w' wb v' B (xs ++ (enc ys.length ++ ys)) ∧ WStep w w' wb v v' := by
  obtain ⟨a, c, hform⟩ : ∃ a c, p = .slice a ys.length c := by
    rcases hp with ⟨rfl, rfl⟩ | ⟨g, off, cap, rfl, _⟩
    · exact ⟨_, _, rfl⟩
    · exact ⟨_, _, rfl⟩
  have hlen := enc_len (v := ys.length) (by omega)
  have HP := Lib.hid hp; clear hp
  have HH := Lib.hid h; clear h
  have HPB := Lib.hid hpb; clear hpb
  subst hform
  have hw : IntKind.u64.wrap ((ys.length : Nat) : Int) = ((ys.length : Nat) : Int) := IntWalk.u64_in _ (by omega)
  go_enter Tryd.func88, Tryd.ntmps88
  go_wp2_with fail
  refine (uint_any ys.length w wb v B xs HH.out (by omega) (by show ys.length < 18446744073709551616; omega)).mono ?_
  rintro e w1 ⟨rfl, v1, hw1, hs1⟩
  have hr1 : Reads w1 (.slice a ys.length c) ys := HP.out.kept hs1.kept fun k hk e => by
    rcases e with e | e
    · exact (HPB.out k hk).1 e
    · exact (HPB.out k hk).2 e
  have hB1 : B ≤ w1.heap.size := Nat.le_trans hB hs1.kept.size
  go_wp2_with fail
  refine (raw_any _ ys w1 wb v1 B _ hw1 hr1 (by simp; omega) hB1).mono ?_
  rintro e w2 ⟨rfl, v2, hw2, hs2⟩
  rw [List.append_assoc] at hw2
  have HW2 := Lib.hid hw2; have HS2 := Lib.hid hs2; clear hw2 hs2
  go_wp2
  go_end0
  exact ⟨rfl, _, HW2.out, hs1.trans HS2.out⟩

/-- A string's bytes. -/
def strB (s : ByteArray) : List Nat := s.data.toList.map UInt8.toNat
theorem strB_cells (s : ByteArray) : Lib.strCells s = bv (strB s) := by simp [Lib.strCells, bv, strB]
theorem strB_length (s : ByteArray) : (strB s).length = s.size := by
  rw [strB, List.length_map, Array.length_toList]; rfl

set_option maxRecDepth 100000 in
set_option maxHeartbeats 400000 in
theorem string_any (s : ByteArray) (w : World) (wb : Nat) (v : Value) (B : Nat) (xs : List Nat) (h : Wr w wb v B xs) (hl : xs.length ≤ 90000000000000) (hy : s.size ≤ 40000000000000) (hB : B ≤ w.heap.size) :
    Calls Tryd.prog 53 #[.pointer (some ⟨wb, 0, none⟩), .string s] w fun e w' => e = .returned (.tuple #[]) ∧ ∃ v', Wr w' wb v' B (xs ++ (enc s.size ++ strB s)) ∧ WStep w w' wb v v' := by
  obtain ⟨i0, hi, hz0, hz1, hz2⟩ := info_parts info_u8
  have hlen := enc_len (v := s.size) (by omega)
  have HH := Lib.hid h; clear h
  have hw : IntKind.u64.wrap ((s.size : Nat) : Int) = ((s.size : Nat) : Int) := IntWalk.u64_in _ (by omega)
  go_enter Tryd.func53, Tryd.ntmps53
  go_wp2_with fail
  refine (uint_any s.size w wb v B xs HH.out (by omega) (by show s.size < 18446744073709551616; omega)).mono ?_
  rintro e w1 ⟨rfl, v1, hw1, hs1⟩
  have hB1 : B ≤ w1.heap.size := Nat.le_trans hB hs1.kept.size
  have hc := hw1.cell
  have hf := hw1.free
  have hap := hw1.apart
  have hwlt := hw1.lt
  obtain ⟨va, vc, hvf⟩ := own_form hw1.own
  have HW1 := Lib.hid hw1; clear hw1
  have HC := Lib.hid hc; have HF := Lib.hid hf
  generalize hN : (xs ++ enc s.size).length = N at hvf
  have hNle : N ≤ 90000000000010 := by rw [← hN]; simp; omega
  have hown := HW1.out.own
  rw [hN] at hown
  have HO := Lib.hid hown; clear hown
  have HN := Lib.hid hN; clear hN
  subst hvf
  go_wp2_with (at_builtin; refine wp_str_at _ rfl _ _ _ _ rfl B 5 i0 Tryd.underlying38 Tryd.underlying9 hi hz0 hz1 hz2 _ _ _ rfl HO.out s rfl (by omega) hB1 ?_)
  intro v' w2 hown1 hgrow hat
  have hcz : w2.cell? ⟨wb, 0, none⟩ = _ := (hgrow.cell_far ⟨wb, 0, none⟩ hwlt (Ne.symm hap)).trans HC.out
  have hfz : w2.frozen? ⟨wb, 0, none⟩ = false := (hgrow.frozen_far ⟨wb, 0, none⟩ hwlt (Ne.symm hap)).trans HF.out
  rw [strB_cells] at hown1
  have hpush := wr_push2 HW1.out HN.out (strB_length s) hown1 hgrow hat
  obtain ⟨va', vc', hvf'⟩ := own_form hown1
  rw [List.append_assoc] at hpush
  have HP := Lib.hid hpush; clear hpush hown1 hgrow hat
  subst hvf'
  go_wp2
  go_end0
  exact ⟨rfl, _, HP.out.1, hs1.trans HP.out.2⟩

set_option maxRecDepth 100000 in
set_option maxHeartbeats 400000 in
theorem wset_any (sv : Value) (M : Nat) (hM : Small M) (w : World) (wb : Nat) (v : Value) (B : Nat) (xs : List Nat) (h : Wr w wb v B xs) (hs : SetV w sv M)
    (hl : xs.length ≤ 90000000000000) (hB : B ≤ w.heap.size) :
    Calls Tryd.prog 54 #[.pointer (some ⟨wb, 0, none⟩), sv] w fun e w' => e = .returned (.tuple #[]) ∧ ∃ v', Wr w' wb v' B (xs ++ (enc (bytesOf M).length ++ bytesOf M)) ∧ WStep w w' wb v v' := by
  obtain ⟨hv, hs', hform, hw, hc, hnil⟩ := hs.ex
  obtain ⟨a, c, hhf⟩ := hw.form
  have hbl : (bytesOf M).length ≤ 1000 := by
    unfold bytesOf
    split
    · simp
    · rename_i h0
      have := log2_small hM h0
      rw [bl8_length]; omega
  have HS := fun (W : World) (hk : Kept (fun _ => False) w W) => (⟨⟨hv, hs', hform, hw.kept hk (fun _ _ h => h), hc, hnil⟩⟩ : SetV W sv M)
  have HSS := Lib.hid HS; clear HS
  have HH := Lib.hid h; clear h hw hc hnil hs
  generalize hs'.length = n at hhf
  generalize (M % 2 ^ 64 : Nat) = lo at hform
  subst hhf hform
  go_enter Tryd.func54, Tryd.ntmps54
  go_wp2_with fail
  refine (bytes_any _ _ M (HSS.out _ (Kept.alloc _ _ _)) hM).mono ?_
  rintro e w1 ⟨p, rfl, hf, hk1⟩
  have hkw : Kept (fun _ => False) w w1 := (Kept.alloc (fun _ => False) w _).then hk1
  have hW1 := HH.out.kept hkw (fun h => h) (fun _ _ h => h)
  have hlt := HH.out.lt
  have hvlt := HH.out.own.lt
  go_wp2_with fail
  refine (wbytes_any p _ w1 wb v B xs hW1 hf.reads (fun k hk => ?_) hl (by omega) (Nat.le_trans hB hkw.size)).mono ?_
  · have := hf.block k hk
    simp at this
    exact ⟨by omega, fun e => by have := (hvlt k e).2; omega⟩
  · rintro e w2 ⟨rfl, v2, hw2, hs2⟩
    have HW2 := Lib.hid hw2; have HS2 := Lib.hid hs2; clear hw2 hs2
    go_wp2
    go_end0
    exact ⟨rfl, _, HW2.out, ⟨hkw.trans HS2.out.kept (fun _ _ h => h.elim) (fun _ _ h => h), HS2.out.row.imp id fun h k hk => Nat.le_trans hkw.size (h k hk)⟩⟩

end Go.Proofs.YtnmcihfegbdipaaDoor
