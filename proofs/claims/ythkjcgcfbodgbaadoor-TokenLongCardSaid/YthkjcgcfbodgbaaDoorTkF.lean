/-
  Tokens: first (the token at the beginning of a text).
-/
import Derived.Test.YthkjcgcfbodgbaaDoorTkE
namespace Go.Proofs.YthkjcgcfbodgbaaDoor
open Go.RowKit Go.Shelf
set_option linter.unusedSimpArgs false
set_option linter.unusedVariables false

set_option maxRecDepth 100000 in
set_option maxHeartbeats 1600000 in
theorem tfirst_letter (s : ByteArray) (w : World) (hs : s.size ≤ 1000000) (h0 : 0 < s.size) (hl : letB (bat s 0) = true) :
    Calls Tryd.prog 43 #[.string s] w fun e w' => e = .returned (tokV 1 (s.extract 0 ((strB s).takeWhile inWordB).length) 0 0) ∧ Kept (fun _ => False) w w' := by
  have HAT := Lib.hid (bat_at s)
  have e0 := HAT.out 0
  obtain ⟨b0, hb0⟩ : ∃ b, b = bat s 0 := ⟨_, rfl⟩
  rw [← hb0] at e0 hl
  have p0 : (0 : Int) < (s.size : Int) := by omega
  have HLE := Lib.hid (fun W => tletter_any b0 W)
  rw [hl] at HLE
  have HRUN := Lib.hid (fun W => trun_word s W hs)
  have hN : ((strB s).takeWhile inWordB).length ≤ s.size := by
    rw [← strB_len]
    exact (List.takeWhile_prefix _).length_le
  generalize ((strB s).takeWhile inWordB).length = N at HRUN hN ⊢
  have lN0 : (0 : Int) ≤ (N : Int) := by omega
  have lN1 : (N : Int) ≤ (s.size : Int) := by omega
  have HK := Lib.hid (fun (c : Array Value) => Kept.alloc (fun _ => False) w (.cells c 31))
  clear hb0 hl
  go_enter Tryd.func43, Tryd.ntmps43
  go_wp2_with fail
  refine (HLE.out _).mono ?_
  rintro e w1 ⟨rfl, rfl⟩
  go_wp2_with fail
  refine (HRUN.out _).mono ?_
  rintro e w1 ⟨rfl, rfl⟩
  go_wp2_with fail
  exact bodyPost_ret (v := tokV 1 (s.extract 0 N) 0 0) (by simp [results, Tryd.results43, go_sem, tokV]) rfl ⟨rfl, HK.out _⟩

set_option maxRecDepth 100000 in
set_option maxHeartbeats 1600000 in
theorem tfirst_digit (s : ByteArray) (w : World) (hs : s.size ≤ 1000000) (h0 : 0 < s.size) (hl : letB (bat s 0) = false) (hd : digB (bat s 0) = true) (k : Nat) (t : ByteArray) (n : Nat)
    (hn : ∀ W, Calls Tryd.prog 81 #[.string s] W fun e w' => e = .returned (tokV k t n 0) ∧ Kept (fun _ => False) W w') :
    Calls Tryd.prog 43 #[.string s] w fun e w' => e = .returned (tokV k t n 0) ∧ Kept (fun _ => False) w w' := by
  have HAT := Lib.hid (bat_at s)
  have e0 := HAT.out 0
  obtain ⟨b0, hb0⟩ : ∃ b, b = bat s 0 := ⟨_, rfl⟩
  rw [← hb0] at e0 hl hd
  have p0 : (0 : Int) < (s.size : Int) := by omega
  have HLE := Lib.hid (fun W => tletter_any b0 W)
  rw [hl] at HLE
  have HDI := Lib.hid (fun W => tdigit_any b0 W)
  rw [hd] at HDI
  have HN := Lib.hid hn
  have HK := Lib.hid (Kept.alloc (fun _ => False) w (.cells #[.int .u8 0, .string ⟨#[]⟩, .int .i64 0, .int .i64 0] 31))
  clear hb0 hl hd hn
  go_enter Tryd.func43, Tryd.ntmps43
  go_wp2_with fail
  refine (HLE.out _).mono ?_
  rintro e w1 ⟨rfl, rfl⟩
  go_wp2_with fail
  refine (HDI.out _).mono ?_
  rintro e w1 ⟨rfl, rfl⟩
  go_wp2_with fail
  refine (HN.out _).mono ?_
  rintro e w2 ⟨rfl, k2⟩
  obtain ⟨c0, c1, c2, c3, f0, f1, f2, f3, hl2⟩ := box4 k2
  have KX := Lib.hid ((HK.out.then k2).trans (keptBox w2 w.heap.size (.int .u8 (k : Int)) (.string t) (.int .i64 (n : Int)) (.int .i64 0)) (T := fun _ => False) (fun _ _ h => h) (fun i hi e => by have e : i = w.heap.size := e; omega))
  clear k2
  unfold tokV
  go_wp2_with fail
  exact bodyPost_ret (v := tokV k t n 0) (by simp [results, Tryd.results43, go_sem, tokV, c0, c1, c2, c3]) rfl ⟨rfl, KX.out⟩

section
variable {P : Program}
theorem wpList_index_strF {ops : Array Oper} {rest : List Oper} {o : Oper} {a : Act} {w : World} {Q : Exit → Act → World → Prop} (hgd : o.guard = none) (t : TypeId) (x y : Operand) (ho : o.op = .index t x y)
    (e : TypeId) (n : Nat) (cs : Array Value) (i : Nat) (v : Value) (ie : TypeInfo) (hx : a.eval x = .agg cs) (hy : a.eval y = .int .i64 i) (ht : P.underlying t = some (.array n e)) (he : P.underlying e = some .string)
    (hie : P.info? e = some ie) (hs : ie.size = 1) (hi : i < n) (hv : cs[i]? = some v)
    (h : wpList P ops Q rest (a.put o.dst v) w) : wpList P ops Q (o :: rest) a w := by
  refine wpList_plain hgd fun K hK => ?_
  unfold Oper.wp execOp
  simp only [ho, hx, hy, Sem.run_bind, Sem.run_pure, Result.andThen_ok, run_index_str w t e n cs i v ie ht he hie hs hi hv]
  exact hK _ _ h
end

set_option maxRecDepth 100000 in
set_option maxHeartbeats 3200000 in
theorem tfirst_sym (s : ByteArray) (w : World) (hs : s.size ≤ 1000000) (h0 : 0 < s.size) (hl : letB (bat s 0) = false) (hd : digB (bat s 0) = false) (hS : Sym w) :
    Calls Tryd.prog 43 #[.string s] w fun e w' => e = .returned (if symN (strB s) = 0 then noTok else tokV 3 (s.extract 0 (symN (strB s))) 0 0) ∧ Kept (fun _ => False) w w' := by
  have HAT := Lib.hid (bat_at s)
  have e0 := HAT.out 0
  obtain ⟨b0, hb0⟩ : ∃ b, b = bat s 0 := ⟨_, rfl⟩
  rw [← hb0] at e0 hl hd
  have p0 : (0 : Int) < (s.size : Int) := by omega
  have HLE := Lib.hid (fun W => tletter_any b0 W)
  rw [hl] at HLE
  have HDI := Lib.hid (fun W => tdigit_any b0 W)
  rw [hd] at HDI
  have HK := Lib.hid (fun (c : Array Value) => Kept.alloc (fun _ => False) w (.cells c 31))
  have hkb := Kept.alloc (fun _ => False) w (.cells #[.int .u8 0, .string ⟨#[]⟩, .int .i64 0, .int .i64 0] 31)
  have HI : Hid ((Tryd.prog.info? 106).map (·.size) = some (symB.map Value.string).length) := by
    show _ = _
    kernel_rfl
  have hat : ∀ k, k < 13 → (symB.map Value.string)[k]? = some (.string (symB.getD k ⟨#[]⟩)) := fun k hk => by
    have hk' : k < symB.length := hk
    simp [List.getD, hk']
  have HC : Hid (∀ j v, (symB.map Value.string)[j]? = some v → (w.alloc (.cells #[.int .u8 0, .string ⟨#[]⟩, .int .i64 0, .int .i64 0] 31)).cell? ⟨0, 0 + j, none⟩ = some v) := fun j v hv => by
    have hj : j < 13 := by
      have : j < (symB.map Value.string).length := by
        by_cases h : j < (symB.map Value.string).length
        · exact h
        · rw [List.getElem?_eq_none (Nat.le_of_not_lt h)] at hv
          cases hv
      exact this
    rw [hat j hj] at hv
    rw [Nat.zero_add, (hS.kept hkb (fun h => h)).cell j hj]
    exact hv
  have HV := Lib.hid hat
  generalize symB.map Value.string = cs at HI HC HV
  clear hb0 hl hd hkb hat hS
  obtain ⟨R, hR⟩ : ∃ R, R = (if symN (strB s) = 0 then noTok else tokV 3 (s.extract 0 (symN (strB s))) 0 0) := ⟨_, rfl⟩
  rw [← hR]
  have HRR := Lib.hid hR
  clear hR
  go_enter Tryd.func43, Tryd.ntmps43
  go_wp2_with fail
  refine (HLE.out _).mono ?_
  rintro e w1 ⟨rfl, rfl⟩
  go_wp2_with fail
  refine (HDI.out _).mono ?_
  rintro e w1 ⟨rfl, rfl⟩
  go_wp2_with (refine wpList_load_global rfl 106 _ rfl 0 0 rfl cs _ HC.out Tryd.underlying106 rfl HI.out ?_)
  go_loop [21] (fun iv => ∃ k : Nat, k ≤ 13 ∧ iv = .int .i64 k ∧ Hid (∀ j, j < k → Lib.hasPrefix s.data.toList (symB.getD j ⟨#[]⟩).data.toList = false)) (fun iv => 13 - (intOf iv).toNat)
  case atStart => exact ⟨0, by omega, rfl, fun j hj => by omega⟩
  case round =>
    obtain ⟨k, hk, rfl, hno⟩ := hrel
    by_cases hlt : k < 13
    · have l1 : (k : Int) < 13 := by omega
      have hv : cs.toArray[k]? = some (.string (symB.getD k ⟨#[]⟩)) := by
        have := HV.out k hlt
        simpa using this
      obtain ⟨x, hx⟩ : ∃ x, x = symB.getD k ⟨#[]⟩ := ⟨_, rfl⟩
      rw [← hx] at hv
      have HP := Lib.hid (fun W => hasPrefix_any s x W)
      have HX := Lib.hid hx
      have HVK := Lib.hid hv
      clear hx hv
      cases hb : Lib.hasPrefix s.data.toList x.data.toList with
      | true =>
        rw [hb] at HP
        obtain ⟨q1, q2⟩ := sym_at hlt hno.out (by rw [← HX.out]; exact hb)
        have q3 : x.size ≠ 0 := by
          rw [HX.out]
          have hall : ∀ j, j < 13 → (symB.getD j ⟨#[]⟩).size ≠ 0 := by decide +kernel
          exact hall k hlt
        have hr : R = tokV 3 x 0 0 := by
          rw [HRR.out, q1, q2, ← HX.out, if_neg q3]
        clear q1 q2 q3 hb hno HRR
        subst hr
        go_wp2_with (first | (refine wpList_index_strF rfl 106 _ _ rfl 9 13 cs.toArray k _ _ rfl rfl Tryd.underlying106 Tryd.underlying9 rfl rfl hlt HVK.out ?_))
        refine (HP.out _).mono ?_
        rintro e w1 ⟨rfl, rfl⟩
        go_wp2_with fail
        exact bodyPost_ret (v := tokV 3 x 0 0) (by simp [results, Tryd.results43, go_sem, tokV]) rfl ⟨rfl, HK.out _⟩
      | false =>
        rw [hb] at HP
        have hno2 : Hid (∀ j, j < k + 1 → Lib.hasPrefix s.data.toList (symB.getD j ⟨#[]⟩).data.toList = false) := fun j hj => by
          by_cases e : j < k
          · exact hno.out j e
          · obtain rfl : j = k := by omega
            rw [← HX.out]; exact hb
        clear hb hno
        go_wp2_with (first | (refine wpList_index_strF rfl 106 _ _ rfl 9 13 cs.toArray k _ _ rfl rfl Tryd.underlying106 Tryd.underlying9 rfl rfl hlt HVK.out ?_))
        refine (HP.out _).mono ?_
        rintro e w1 ⟨rfl, rfl⟩
        go_wp2_with fail
        go_round
        case rel => exact ⟨k + 1, by omega, by go_num, hno2⟩
        case measure => simp [intOf]; omega
    · obtain rfl : k = 13 := by omega
      have hr : R = noTok := by
        rw [HRR.out, if_pos (sym_no hno.out)]
      clear hno HRR
      subst hr
      go_wp2_with fail
      exact bodyPost_ret (v := noTok) (by simp [results, Tryd.results43, go_sem, noTok]) rfl ⟨rfl, HK.out _⟩

theorem tfirst_any (s : ByteArray) (w : World) (hs : s.size ≤ 1000000) (h0 : 0 < s.size) (hS : Sym w) :
    Calls Tryd.prog 43 #[.string s] w fun e w' => e = .returned (firstV s) ∧ Kept (fun _ => False) w w' := by
  have hF := firstT_cons h0
  unfold firstV
  rw [hF]
  cases hl : letB (bat s 0) with
  | true =>
    have := tfirst_letter s w hs h0 hl
    simpa using this
  | false =>
    cases hd : digB (bat s 0) with
    | true =>
      simp only [Bool.false_eq_true, if_false, if_true]
      split
      · rename_i hc
        have hn : ∀ W, Calls Tryd.prog 81 #[.string s] W fun e w' => e = .returned (tokV 0 ⟨#[]⟩ 0 0) ∧ Kept (fun _ => False) W w' := fun W => by
          have := tnumber_any s W hs h0 hd
          rw [if_pos hc] at this
          exact this
        exact tfirst_digit s w hs h0 hl hd 0 _ 0 hn
      · rename_i hc
        have hn : ∀ W, Calls Tryd.prog 81 #[.string s] W fun e w' => e = .returned (tokV 2 (s.extract 0 ((strB s).takeWhile digB).length) (valN ((strB s).take ((strB s).takeWhile digB).length)) 0) ∧ Kept (fun _ => False) W w' := fun W => by
          have := tnumber_any s W hs h0 hd
          rw [if_neg hc] at this
          exact this
        exact tfirst_digit s w hs h0 hl hd 2 _ _ hn
    | false =>
      simp only [Bool.false_eq_true, if_false]
      have := tfirst_sym s w hs h0 hl hd hS
      by_cases h : symN (strB s) = 0
      · simpa [h] using this
      · simpa [h] using this
end Go.Proofs.YthkjcgcfbodgbaaDoor
