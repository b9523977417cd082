/-
  Tokens: letters, digits; skip (blanks and comments).
-/
import Derived.Test.YthkjcgcfbodgbaaDoorTkM
import Derived.Shelf.Small.Strs
namespace Go.Proofs.YthkjcgcfbodgbaaDoor
open Go.RowKit Go.Shelf
set_option linter.unusedSimpArgs false
set_option linter.unusedVariables false

def laysIBt_ren : Go.Shelf.Ren := ⟨fun | 137 => 76 | 217 => 99 | 266 => 112 | n => n, fun | 3 => 3 | 5 => 5 | 9 => 9 | n => n, fun | n => n⟩
theorem laysIBt : Go.Proofs.Lays.n137 Tryd.prog laysIBt_ren := {
  mixed := by kernel_rfl
  f137 := Tryd.func76.trans (congrArg some (by kernel_rfl))
  f217 := Tryd.func99.trans (congrArg some (by kernel_rfl))
  f266 := Tryd.func112.trans (congrArg some (by kernel_rfl))
  t3 := Tryd.underlying3
  a3 := Tryd.isAgg3
  z3 := Tryd.sizeOf3
  v3 := Tryd.zeroValue3
  t5 := Tryd.underlying5
  a5 := Tryd.isAgg5
  z5 := Tryd.sizeOf5
  v5 := Tryd.zeroValue5
  t9 := Tryd.underlying9
  a9 := Tryd.isAgg9
  z9 := Tryd.sizeOf9
  v9 := Tryd.zeroValue9 }

theorem indexLf_any (x : ByteArray) (w : World) : Calls Tryd.prog 76 #[.string x, .int .u8 10] w fun e w' => e = .returned (.int .i64 (Lib.indexByte x.data.toList 10)) ∧ w = w' := by
  refine (Any.strings_IndexByte laysIBt x (10 : Int) w).mono ?_
  rintro e w' ⟨rfl, h⟩
  exact ⟨by first | rfl | simp, h.symm⟩
theorem index_cases (c : UInt8) : ∀ l : List UInt8, (Lib.indexByte l c = -1 ∧ c ∉ l) ∨ ∃ n : Nat, Lib.indexByte l c = n ∧ n < l.length ∧ l.getD n 0 = c ∧ c ∉ l.take n
  | [] => Or.inl ⟨rfl, by simp⟩
  | b :: t => by
    by_cases h : b = c
    · refine Or.inr ⟨0, by simp [Lib.indexByte, h], by simp, by simp [h], by simp⟩
    · have hb : (b == c) = false := by simpa using h
      rcases index_cases c t with ⟨h1, h2⟩ | ⟨n, h1, h2, h3, h4⟩
      · refine Or.inl ⟨by simp [Lib.indexByte, hb, h1], by simp [h2]; exact fun e => h e.symm⟩
      · refine Or.inr ⟨n + 1, ?_, by simp; omega, by simpa using h3, ?_⟩
        · simp [Lib.indexByte, hb, h1]
          try (intro h0; try omega)
        · simp [h4]; exact fun e => h e.symm

theorem strB_len (s : ByteArray) : (strB s).length = s.size := by simp [strB]
theorem strB_at (s : ByteArray) (j : Nat) : (strB s).getD j 0 = bat s j := rfl

set_option maxRecDepth 100000 in
theorem tletter_any (c : Nat) (w : World) : Calls Tryd.prog 77 #[.int .u8 c] w fun e w' => e = .returned (.bool (letB c)) ∧ w = w' := by
  by_cases h1 : 97 ≤ c
  · have t1 : (97 : Int) ≤ c := by omega
    by_cases h2 : c ≤ 122
    · have t2 : (c : Int) ≤ 122 := by omega
      have hr : letB c = true := by simp [letB, h1, h2]
      go_enter Tryd.func77, Tryd.ntmps77
      go_wp2_with fail
      go_ret
      exact ⟨by first | rfl | (rw [hr]; rfl), rfl⟩
    · have t2 : ¬ (c : Int) ≤ 122 := by omega
      have hr : letB c = false := by simp [letB, h2]
      go_enter Tryd.func77, Tryd.ntmps77
      go_wp2_with fail
      go_ret
      exact ⟨by first | rfl | (rw [hr]; rfl), rfl⟩
  · have t1 : ¬ (97 : Int) ≤ c := by omega
    have hr : letB c = false := by simp [letB, h1]
    go_enter Tryd.func77, Tryd.ntmps77
    go_wp2_with fail
    go_ret
    exact ⟨by first | rfl | (rw [hr]; rfl), rfl⟩

set_option maxRecDepth 100000 in
theorem tdigit_any (c : Nat) (w : World) : Calls Tryd.prog 80 #[.int .u8 c] w fun e w' => e = .returned (.bool (digB c)) ∧ w = w' := by
  by_cases h1 : 48 ≤ c
  · have t1 : (48 : Int) ≤ c := by omega
    by_cases h2 : c ≤ 57
    · have t2 : (c : Int) ≤ 57 := by omega
      have hr : digB c = true := by simp [digB, h1, h2]
      go_enter Tryd.func80, Tryd.ntmps80
      go_wp2_with fail
      go_ret
      exact ⟨by first | rfl | (rw [hr]; rfl), rfl⟩
    · have t2 : ¬ (c : Int) ≤ 57 := by omega
      have hr : digB c = false := by simp [digB, h2]
      go_enter Tryd.func80, Tryd.ntmps80
      go_wp2_with fail
      go_ret
      exact ⟨by first | rfl | (rw [hr]; rfl), rfl⟩
  · have t1 : ¬ (48 : Int) ≤ c := by omega
    have hr : digB c = false := by simp [digB, h1]
    go_enter Tryd.func80, Tryd.ntmps80
    go_wp2_with fail
    go_ret
    exact ⟨by first | rfl | (rw [hr]; rfl), rfl⟩

set_option maxRecDepth 100000 in
theorem tinWord_any (c : Nat) (w : World) : Calls Tryd.prog 79 #[.int .u8 c] w fun e w' => e = .returned (.bool (inWordB c)) ∧ w = w' := by
  have hL := tletter_any c w
  have hD := tdigit_any c w
  unfold inWordB
  cases hl : letB c with
  | true =>
    rw [hl] at hL
    have HL := Lib.hid hL
    clear hL hD hl
    show Calls _ _ _ _ fun e w' => e = .returned (.bool true) ∧ _
    go_enter Tryd.func79, Tryd.ntmps79
    go_wp2_with fail
    refine HL.out.mono ?_
    rintro e w1 ⟨rfl, rfl⟩
    go_wp2_with fail
    go_ret
    exact ⟨rfl, rfl⟩
  | false =>
    rw [hl] at hL
    cases hd : digB c with
    | true =>
      rw [hd] at hD
      have HL := Lib.hid hL; have HD := Lib.hid hD
      clear hL hD hl hd
      show Calls _ _ _ _ fun e w' => e = .returned (.bool true) ∧ _
      go_enter Tryd.func79, Tryd.ntmps79
      go_wp2_with fail
      refine HL.out.mono ?_
      rintro e w1 ⟨rfl, rfl⟩
      go_wp2_with fail
      refine HD.out.mono ?_
      rintro e w1 ⟨rfl, rfl⟩
      go_wp2_with fail
      go_ret
      exact ⟨rfl, rfl⟩
    | false =>
      rw [hd] at hD
      have HL := Lib.hid hL; have HD := Lib.hid hD
      clear hL hD hl hd
      by_cases h95 : c = 95
      · subst h95
        go_enter Tryd.func79, Tryd.ntmps79
        go_wp2_with fail
        refine HL.out.mono ?_
        rintro e w1 ⟨rfl, rfl⟩
        go_wp2_with fail
        refine HD.out.mono ?_
        rintro e w1 ⟨rfl, rfl⟩
        go_wp2_with fail
        go_ret
        exact ⟨rfl, rfl⟩
      · have hb : ((c : Int) == 95) = false := beq_eq_false_iff_ne.2 (by omega)
        rw [decide_eq_false h95]
        show Calls _ _ _ _ fun e w' => e = .returned (.bool false) ∧ _
        go_enter Tryd.func79, Tryd.ntmps79
        go_wp2_with fail
        refine HL.out.mono ?_
        rintro e w1 ⟨rfl, rfl⟩
        go_wp2_with fail
        refine HD.out.mono ?_
        rintro e w1 ⟨rfl, rfl⟩
        go_wp2_with fail
        go_ret
        exact ⟨rfl, rfl⟩

set_option maxRecDepth 100000 in
set_option maxHeartbeats 1600000 in
theorem tskip_any (s : ByteArray) (i : Nat) (w : World) (hi : i ≤ s.size) (hs : s.size ≤ 1000000) :
    Calls Tryd.prog 42 #[.string s, .int .i64 i] w fun e w' => e = .returned (.int .i64 (skipT (strB s) i : Nat)) ∧ w = w' := by
  obtain ⟨T, hT⟩ : ∃ T, T = skipT (strB s) i := ⟨_, rfl⟩
  rw [← hT]
  have HT := Lib.hid hT.symm
  have HAT := Lib.hid (bat_at s)
  have HLN := Lib.hid (strB_len s)
  clear hT
  go_enter Tryd.func42, Tryd.ntmps42
  go_wp2_with fail
  go_loop [1] (fun iv => ∃ k : Nat, k ≤ s.size ∧ iv = .int .i64 k ∧ Hid (skipT (strB s) k = T)) (fun iv => s.size - (intOf iv).toNat)
  case atStart => exact ⟨i, hi, rfl, HT⟩
  case round =>
    obtain ⟨k, hk, rfl, hsk⟩ := hrel
    by_cases hlt : k < s.size
    · have l1 : (k : Int) < (s.size : Int) := by omega
      have l0 : (0 : Int) ≤ (k : Int) := by omega
      have l2 : (k : Int) ≤ (s.size : Int) := by omega
      have ek := HAT.out k
      obtain ⟨c, hc⟩ : ∃ c, c = bat s k := ⟨_, rfl⟩
      rw [← hc] at ek
      have HC := Lib.hid hc
      clear hc
      have hlk : k < (strB s).length := by rw [HLN.out]; exact hlt
      have hcase : (c = 32 ∨ c = 9 ∨ c = 10 ∨ c = 13) ∨ c = 35 ∨ (c ≠ 32 ∧ c ≠ 9 ∧ c ≠ 10 ∧ c ≠ 13 ∧ c ≠ 35) := by omega
      rcases hcase with hbl | h35 | ⟨n1, n2, n3, n4, n5⟩
      · have HS1 : Hid (skipT (strB s) (k + 1) = T) := by
          show _ = _
          rw [← hsk.out]
          exact skipT_blank hlk (by rw [strB_at, ← HC.out]; unfold blankB; rcases hbl with h | h | h | h <;> simp [h])
        clear HC hlk hsk
        rcases hbl with rfl | rfl | rfl | rfl
        all_goals
          go_wp2_with fail
          go_round
          case rel => exact ⟨k + 1, by omega, by go_num, HS1⟩
          case measure => simp [intOf]; omega
      · have hIX := indexLf_any (s.extract k s.size) w
        have hxl : (s.extract k s.size).data.toList = s.data.toList.drop k := by
          simp
          rw [List.take_of_length_le (by simp)]
        rw [hxl] at hIX
        have hh : (strB s).getD k 0 = 35 := by rw [strB_at, ← HC.out]; exact h35
        have hmap : ∀ (u : List UInt8), (10 : Nat) ∈ u.map UInt8.toNat → (10 : UInt8) ∈ u := fun u hu => by
          obtain ⟨b, hb, e⟩ := List.mem_map.1 hu
          have : b = 10 := by
            apply UInt8.toNat_inj.1
            rw [e]; rfl
          rw [← this]; exact hb
        rcases index_cases 10 (s.data.toList.drop k) with ⟨q1, q2⟩ | ⟨n, q1, q2, q3, q4⟩
        · rw [q1] at hIX
          have hfin : T = s.size := by
            rw [← hsk.out, skipT_none hlk hh ?_, HLN.out]
            intro hm
            have hm2 : (10 : Nat) ∈ (s.data.toList.drop (k + 1)).map UInt8.toNat := by
              have e : (strB s).drop (k + 1) = (s.data.toList.drop (k + 1)).map UInt8.toNat := by simp [strB, List.map_drop]
              rw [← e]; exact hm
            have := hmap _ hm2
            exact q2 (by
              have h3 : s.data.toList.drop (k + 1) = (s.data.toList.drop k).drop 1 := by rw [List.drop_drop]
              rw [h3] at this
              exact List.mem_of_mem_drop this)
          have HI := Lib.hid hIX
          clear hIX q1 q2 hxl hh hmap hlk HC hsk HT
          subst h35
          subst hfin
          go_wp2_with fail
          refine HI.out.mono ?_
          rintro e w1 ⟨rfl, rfl⟩
          go_wp2_with fail
          go_ret
          exact ⟨rfl, rfl⟩
        · rw [q1] at hIX
          rw [List.length_drop] at q2
          have hsz : s.data.toList.length = s.size := by simp
          rw [hsz] at q2
          have hn0 : 0 < n := by
            rcases Nat.eq_zero_or_pos n with e | e
            · exfalso
              rw [e] at q3
              have h1 : (strB s).getD k 0 = 10 := by
                have h2 : (s.data.toList.drop k).getD 0 0 = s.data.toList.getD k 0 := by simp [List.getD]
                rw [h2] at q3
                simp only [strB, List.getD, List.getElem?_map] at q3 ⊢
                have hk3 : k < s.data.toList.length := by rw [hsz]; exact hlt
                rw [List.getElem?_eq_getElem hk3] at q3 ⊢
                simp only [Option.getD_some, Option.map_some] at q3 ⊢
                rw [q3]; rfl
              rw [hh] at h1
              exact absurd h1 (by decide)
            · exact e
          have HS1 : Hid (skipT (strB s) (k + n) = T) := by
            show _ = _
            rw [← hsk.out]
            refine (skipT_some (by rw [HLN.out]; omega) hn0 hh ?_ ?_).symm
            · intro hm
              have e : ((strB s).drop (k + 1)).take (n - 1) = ((s.data.toList.drop (k + 1)).take (n - 1)).map UInt8.toNat := by simp [strB, List.map_drop, List.map_take]
              rw [e] at hm
              have := hmap _ hm
              refine q4 ?_
              have h3 : (s.data.toList.drop (k + 1)).take (n - 1) = ((s.data.toList.drop k).take n).drop 1 := by
                rw [List.drop_take, List.drop_drop]
              rw [h3] at this
              exact List.mem_of_mem_drop this
            · have h2 : (s.data.toList.drop k).getD n 0 = s.data.toList.getD (k + n) 0 := by simp [List.getD]
              rw [h2] at q3
              simp only [strB, List.getD, List.getElem?_map] at q3 ⊢
              have hk3 : k + n < s.data.toList.length := by rw [hsz]; omega
              rw [List.getElem?_eq_getElem hk3] at q3 ⊢
              simp only [Option.getD_some, Option.map_some] at q3 ⊢
              rw [q3]; rfl
          have hkn : IntKind.i64.wrap ((k : Int) + (n : Int)) = ((k + n : Nat) : Int) := by rw [IntWalk.i64_in _ (by omega)]; omega
          have HI := Lib.hid hIX
          have HKN := Lib.hid hkn
          clear hIX q1 q3 q4 hxl hh hmap hlk HC hsk HT hsz hkn
          subst h35
          go_wp2_with fail
          refine HI.out.mono ?_
          rintro e w1 ⟨rfl, rfl⟩
          go_wp2_with fail
          go_round
          case rel => exact ⟨k + n, by omega, by go_num, HS1⟩
          case measure => simp [intOf]; omega
      · have hfin : T = k := by
          rw [← hsk.out]
          exact skipT_stop hlk (by rw [strB_at, ← HC.out]; simp [blankB, n1, n2, n3, n4]) (by rw [strB_at, ← HC.out]; exact n5)
        have b1 : ((c : Int) == 32) = false := beq_eq_false_iff_ne.2 (by omega)
        have b2 : ((c : Int) == 9) = false := beq_eq_false_iff_ne.2 (by omega)
        have b3 : ((c : Int) == 10) = false := beq_eq_false_iff_ne.2 (by omega)
        have b4 : ((c : Int) == 13) = false := beq_eq_false_iff_ne.2 (by omega)
        have b5 : ((c : Int) == 35) = false := beq_eq_false_iff_ne.2 (by omega)
        clear HC hlk hsk HT n1 n2 n3 n4 n5
        subst hfin
        go_wp2_with fail
        go_ret
        exact ⟨rfl, rfl⟩
    · obtain rfl : k = s.size := by omega
      have hfin : T = s.size := by
        rw [← hsk.out]
        exact skipT_end _ _ (by rw [HLN.out]; exact Nat.le_refl _)
      clear hsk HT
      subst hfin
      go_wp2_with fail
      go_ret
      exact ⟨rfl, rfl⟩
end Go.Proofs.YthkjcgcfbodgbaaDoor
