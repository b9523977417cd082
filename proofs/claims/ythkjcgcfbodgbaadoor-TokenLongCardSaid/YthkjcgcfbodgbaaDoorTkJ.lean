/-
  Tokens: the reference's symbol.
-/
import Derived.Test.YthkjcgcfbodgbaaDoorTkI
namespace Go.Proofs.YthkjcgcfbodgbaaDoor
open Go.RowKit
set_option linter.unusedSimpArgs false
set_option linter.unusedVariables false

theorem ext_list (s : ByteArray) (a b : Nat) : (s.extract a b).data.toList = (s.data.toList.drop a).take (b - a) := by
  simp
  try rw [List.drop_take]
theorem sym_match {s x : ByteArray} {i : Nat} (h : i + x.size ≤ s.size) : (s.extract i (i + x.size) = x) ↔ Lib.hasPrefix (s.extract i s.size).data.toList x.data.toList = true := by
  have hx : x.size = x.data.toList.length := rfl
  have hs : s.size = s.data.toList.length := rfl
  have e1 : (s.extract i s.size).data.toList = s.data.toList.drop i := by
    rw [ext_list, List.take_of_length_le (by rw [List.length_drop, hs]; omega)]
  have e2 : (s.extract i (i + x.size)).data.toList = (s.data.toList.drop i).take x.size := by
    rw [ext_list, show i + x.size - i = x.size by omega]
  unfold Lib.hasPrefix
  rw [e1, List.isPrefixOf_iff_prefix, List.prefix_iff_eq_take]
  constructor
  · intro e
    rw [e] at e2
    rw [← hx]; exact e2
  · intro e
    apply str_extT
    rw [e2, hx]; exact e.symm
theorem sym_short {s x : ByteArray} {i : Nat} (hi : i ≤ s.size) (h : ¬ i + x.size ≤ s.size) : Lib.hasPrefix (s.extract i s.size).data.toList x.data.toList = false := by
  have hx : x.size = x.data.toList.length := rfl
  have hs : s.size = s.data.toList.length := rfl
  have e1 : (s.extract i s.size).data.toList = s.data.toList.drop i := by
    rw [ext_list, List.take_of_length_le (by rw [List.length_drop, hs]; omega)]
  unfold Lib.hasPrefix
  rw [e1, Bool.eq_false_iff]
  intro e
  rw [List.isPrefixOf_iff_prefix] at e
  have := e.length_le
  rw [List.length_drop, ← hx, ← hs] at this
  omega
/-- Where the symbol that begins at a place ends; 0: there is none. -/
def symR (s : ByteArray) (i : Nat) : Nat := if symN ((strB s).drop i) = 0 then 0 else i + symN ((strB s).drop i)
theorem strB_ext (s : ByteArray) (i : Nat) : strB (s.extract i s.size) = (strB s).drop i := by
  have hs : s.size = s.data.toList.length := rfl
  unfold strB
  rw [ext_list, List.take_of_length_le (by rw [List.length_drop, hs]; omega), List.map_drop]

set_option maxRecDepth 100000 in
set_option maxHeartbeats 3200000 in
theorem rsymbol_any (s : ByteArray) (i : Nat) (w : World) (hi : i ≤ s.size) (hs : s.size ≤ 1000000) :
    Calls Tryd.prog 75 #[.string s, .int .i64 i] w fun e w' => e = .returned (.int .i64 (symR s i : Nat)) ∧ Kept (fun _ => False) w w' := by
  have li0 : (0 : Int) ≤ (i : Int) := by omega
  have li1 : (i : Int) ≤ (s.size : Int) := by omega
  obtain ⟨R, hR⟩ : ∃ R, R = symR s i := ⟨_, rfl⟩
  rw [← hR]
  have HR := Lib.hid hR
  clear hR
  have HS := Lib.hid (strs_new w (symB.map Value.string).toArray 9 13 symB rfl rfl (by unfold maxLen; omega))
  have HK := Lib.hid (Kept.alloc (fun _ => False) w (.cells (symB.map Value.string).toArray 9))
  have HSZ : Hid (∀ k, k < 13 → (symB.getD k ⟨#[]⟩).size ≤ 2 ∧ (symB.getD k ⟨#[]⟩).size ≠ 0) := by
    show ∀ k, k < 13 → _
    decide +kernel
  go_enter Tryd.func75, Tryd.ntmps75
  go_wp2_with fail
  go_loopw [9] (fun iv wr => ∃ k : Nat, k ≤ 13 ∧ iv = .int .i64 k ∧ Hid (∀ j, j < k → Lib.hasPrefix (s.extract i s.size).data.toList (symB.getD j ⟨#[]⟩).data.toList = false) ∧ Hid (Strs wr (.slice (some ⟨w.heap.size, 0, none⟩) 13 13) symB) ∧ Hid (Kept (fun _ => False) w wr)) (fun iv _ => 13 - (intOf iv).toNat)
  case atStart => exact ⟨0, by omega, rfl, fun j hj => by omega, HS, HK⟩
  case round =>
    obtain ⟨k, hk, rfl, hno, HSW, HKW⟩ := hrel
    by_cases hlt : k < 13
    · have l1 : (k : Int) < 13 := by omega
      have l0 : (0 : Int) ≤ (k : Int) := by omega
      obtain ⟨g, off, hg, _, hcell⟩ := HSW.out.at (k := k) hlt
      cases hg
      rw [Nat.zero_add] at hcell
      obtain ⟨x, hx⟩ : ∃ x, x = symB.getD k ⟨#[]⟩ := ⟨_, rfl⟩
      obtain ⟨z1, z2⟩ := HSZ.out k hlt
      rw [← hx] at hcell z1 z2
      have HX := Lib.hid hx
      clear hx
      have lx0 : (0 : Int) ≤ (x.size : Int) := by omega
      have lx2 : (x.size : Int) ≤ 2 := by omega
      have hno2 : Lib.hasPrefix (s.extract i s.size).data.toList x.data.toList = false → Hid (∀ j, j < k + 1 → Lib.hasPrefix (s.extract i s.size).data.toList (symB.getD j ⟨#[]⟩).data.toList = false) := fun hb => fun j hj => by
        by_cases e : j < k
        · exact hno.out j e
        · obtain rfl : j = k := by omega
          rw [← HX.out]; exact hb
      by_cases hsz : i + x.size ≤ s.size
      · have m1 : (i : Int) + (x.size : Int) ≤ (s.size : Int) := by omega
        have m2 : (i : Int) ≤ (i : Int) + (x.size : Int) := by omega
        have hm := sym_match hsz
        obtain ⟨y, hy⟩ : ∃ y, y = s.extract i (i + x.size) := ⟨_, rfl⟩
        by_cases he : s.extract i (i + x.size) = x
        · have hq := (sym_at hlt hno.out (by rw [← HX.out]; exact hm.1 he)).1
          rw [← HX.out, strB_ext] at hq
          have hr : R = i + x.size := by
            rw [HR.out]
            unfold symR
            rw [hq, if_neg z2]
          have hb : ((s.extract i (i + x.size)).toList == x.toList) = true := by rw [str_eq]; simp [he]
          clear hq hm hno hno2 HR he hy HX
          subst hr
          go_wp2_with fail
          go_ret
          exact ⟨rfl, HKW.out⟩
        · have hf : Lib.hasPrefix (s.extract i s.size).data.toList x.data.toList = false := by
            rw [Bool.eq_false_iff]; exact fun h => he (hm.2 h)
          have HN := Lib.hid (hno2 hf).out
          have hb : ((s.extract i (i + x.size)).toList == x.toList) = false := by rw [str_eq]; simp [he]
          clear hf hm hno hno2 he hy HX
          go_wp2_with fail
          go_round
          case rel => exact ⟨k + 1, by omega, by go_num, HN, HSW, HKW⟩
          case measure => simp [intOf]; omega
      · have m1 : ¬ (i : Int) + (x.size : Int) ≤ (s.size : Int) := by omega
        have HN := Lib.hid (hno2 (sym_short hi hsz)).out
        clear hno hno2 HX
        go_wp2_with fail
        go_round
        case rel => exact ⟨k + 1, by omega, by go_num, HN, HSW, HKW⟩
        case measure => simp [intOf]; omega
    · obtain rfl : k = 13 := by omega
      have hr : R = 0 := by
        rw [HR.out]
        unfold symR
        rw [← strB_ext, sym_no hno.out]
        rfl
      clear hno HR
      subst hr
      go_wp2_with fail
      go_ret
      exact ⟨rfl, HKW.out⟩
end Go.Proofs.YthkjcgcfbodgbaaDoor
