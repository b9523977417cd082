/-
  Names of paths: path.inName, isName, allNames; arbacref07.IsName.
-/
import Derived.Test.YtnnakllgfaaejaaGreatDoorPaM
import Derived.Test.YtnnakllgfaaejaaGreatDoorNamV
namespace Go.Proofs.YtnnakllgfaaejaaGreatDoor
open Go.RowKit
set_option linter.unusedSimpArgs false

theorem bat_list (s : ByteArray) (j : Nat) (h : j < s.size) : bat s j = (s.data.toList.getD j 0).toNat := by
  have e : s.data.toList[j]? = some s.data.toList[j] := List.getElem?_eq_getElem h
  unfold bat strB
  rw [List.getD_eq_getElem?_getD, List.getD_eq_getElem?_getD, List.getElem?_map, e]
  rfl
theorem okB_all (s : ByteArray) : s.data.toList.all (fun b => okB b.toNat) = true ↔ ∀ j, j < s.size → okB (bat s j) = true := by
  rw [List.all_eq_true]
  constructor
  · intro h j hj
    rw [bat_list s j hj]
    have h2 : j < s.data.toList.length := hj
    have e : s.data.toList.getD j 0 = s.data.toList[j] := by rw [List.getD_eq_getElem?_getD, List.getElem?_eq_getElem h2]; rfl
    rw [e]
    exact h _ (List.getElem_mem h2)
  · intro h b hb
    obtain ⟨j, hj, e⟩ := List.getElem_of_mem hb
    have hj2 : j < s.size := hj
    have := h j hj2
    rw [bat_list s j hj2] at this
    have e2 : s.data.toList.getD j 0 = b := by rw [← e, List.getD_eq_getElem?_getD, List.getElem?_eq_getElem hj]; rfl
    rw [e2] at this
    exact this
theorem data_inj {s : ByteArray} {l : List UInt8} (h : s.data.toList = l) : s = ⟨l.toArray⟩ := by rw [← h]

theorem toList_ne {s : ByteArray} {l : List UInt8} (h : s ≠ ⟨l.toArray⟩) : ¬ s.toList = l := fun e => h (data_inj (by rw [← ByteArray.toList_eq]; exact e))

theorem nameS_bad {s : ByteArray} (h : s.size = 0 ∨ 12 < s.size ∨ s = ⟨#[46]⟩ ∨ s = ⟨#[46, 46]⟩ ∨ ∃ j, j < s.size ∧ okB (bat s j) = false) : nameS s = false := by
  unfold nameS nameL
  have hsz : s.data.toList.length = s.size := rfl
  rw [hsz]
  rcases h with h | h | h | h | ⟨j, hj, h⟩
  · simp [h]
  · simp [show ¬ s.size ≤ 12 by omega]
  · subst h; decide
  · subst h; decide
  · have : s.data.toList.all (fun b => okB b.toNat) = false := by
      cases e : s.data.toList.all (fun b => okB b.toNat) with
      | false => rfl
      | true => have := (okB_all s).1 e j hj; rw [h] at this; cases this
    rw [this]; simp
theorem nameS_good {s : ByteArray} (h0 : s.size ≠ 0) (h1 : ¬ 12 < s.size) (h2 : s ≠ ⟨#[46]⟩) (h3 : s ≠ ⟨#[46, 46]⟩) (h4 : ∀ j, j < s.size → okB (bat s j) = true) : nameS s = true := by
  unfold nameS nameL
  have hsz : s.data.toList.length = s.size := rfl
  rw [hsz, (okB_all s).2 h4]
  have e2 : (s.data.toList == [46]) = false := by
    rw [beq_eq_false_iff_ne]; intro e; exact h2 (data_inj e)
  have e3 : (s.data.toList == [46, 46]) = false := by
    rw [beq_eq_false_iff_ne]; intro e; exact h3 (data_inj e)
  rw [e2, e3]
  simp
  omega

/-- What the tests on one byte may come to. -/
theorem okB_cases (c : Nat) : (okB c = true ∧ (((97 : Int) ≤ c ∧ (c : Int) ≤ 122) ∨ (¬ (97 : Int) ≤ c ∧ (48 : Int) ≤ c ∧ (c : Int) ≤ 57) ∨ c = 95 ∨ c = 46 ∨ c = 45)) ∨
    (okB c = false ∧ (((97 : Int) ≤ c ∧ ¬ (c : Int) ≤ 122 ∧ (48 : Int) ≤ c ∧ ¬ (c : Int) ≤ 57 ∧ ((c : Int) == 95) = false ∧ ((c : Int) == 46) = false ∧ ((c : Int) == 45) = false ∧ ((c : Int) != 95) = true ∧ ((c : Int) != 46) = true ∧ ((c : Int) != 45) = true) ∨ (¬ (97 : Int) ≤ c ∧ (48 : Int) ≤ c ∧ ¬ (c : Int) ≤ 57 ∧ ((c : Int) == 95) = false ∧ ((c : Int) == 46) = false ∧ ((c : Int) == 45) = false ∧ ((c : Int) != 95) = true ∧ ((c : Int) != 46) = true ∧ ((c : Int) != 45) = true) ∨ (¬ (97 : Int) ≤ c ∧ ¬ (48 : Int) ≤ c ∧ ((c : Int) == 95) = false ∧ ((c : Int) == 46) = false ∧ ((c : Int) == 45) = false ∧ ((c : Int) != 95) = true ∧ ((c : Int) != 46) = true ∧ ((c : Int) != 45) = true))) := by
  by_cases h1 : 97 ≤ c ∧ c ≤ 122
  · exact Or.inl ⟨by simp [okB, h1.1, h1.2], Or.inl (by omega)⟩
  by_cases h2 : 48 ≤ c ∧ c ≤ 57
  · exact Or.inl ⟨by simp [okB, h2.1, h2.2], Or.inr (Or.inl (by omega))⟩
  by_cases h3 : c = 95
  · exact Or.inl ⟨by simp [okB, h3], by omega⟩
  by_cases h4 : c = 46
  · exact Or.inl ⟨by simp [okB, h4], by omega⟩
  by_cases h5 : c = 45
  · exact Or.inl ⟨by simp [okB, h5], by omega⟩
  have q1 : ((c : Int) == 95) = false := by simp; omega
  have q2 : ((c : Int) == 46) = false := by simp; omega
  have q3 : ((c : Int) == 45) = false := by simp; omega
  have q4 : ((c : Int) != 95) = true := by simp; omega
  have q5 : ((c : Int) != 46) = true := by simp; omega
  have q6 : ((c : Int) != 45) = true := by simp; omega
  refine Or.inr ⟨?_, ?_⟩
  rotate_left
  · simp only [q1, q2, q3, q4, q5, q6, and_true]
    omega
  have e1 : (decide (97 ≤ c) && decide (c ≤ 122)) = false := by rw [Bool.and_eq_false_iff, decide_eq_false_iff_not, decide_eq_false_iff_not]; omega
  have e2 : (decide (48 ≤ c) && decide (c ≤ 57)) = false := by rw [Bool.and_eq_false_iff, decide_eq_false_iff_not, decide_eq_false_iff_not]; omega
  unfold okB
  rw [e1, e2]
  simp [h3, h4, h5]

set_option maxRecDepth 100000 in
theorem inName_any (c : Nat) (w : World) : Calls Tryz.prog 106 #[.int .u8 c] w fun e w' => e = .returned (.bool (okB c)) ∧ w = w' := by
  rcases okB_cases c with ⟨hr, h⟩ | ⟨hr, h⟩
  · rw [hr]
    clear hr
    rcases h with ⟨h1, h2⟩ | ⟨h1, h2, h3⟩ | rfl | rfl | rfl
    all_goals
      go_enter Tryz.func106, Tryz.ntmps106
      go_wp2_with fail
      go_ret
      exact ⟨rfl, rfl⟩
  · rw [hr]
    clear hr
    rcases h with ⟨h1, h2, h3, h4, h5, h6, h7, h8, h9, h10⟩ | ⟨h1, h3, h4, h5, h6, h7, h8, h9, h10⟩ | ⟨h1, h3, h5, h6, h7, h8, h9, h10⟩
    all_goals
      go_enter Tryz.func106, Tryz.ntmps106
      go_wp2_with fail
      go_ret
      exact ⟨rfl, rfl⟩

set_option maxRecDepth 100000 in
set_option maxHeartbeats 1600000 in
theorem isName_any (s : ByteArray) (w : World) : Calls Tryz.prog 98 #[.string s] w fun e w' => e = .returned (.bool (nameS s)) ∧ w = w' := by
  obtain ⟨V, hV⟩ : ∃ V, V = nameS s := ⟨_, rfl⟩
  rw [← hV]
  have HV := Lib.hid hV
  clear hV
  have hAt := bat_at s
  have HAT := Lib.hid hAt
  clear hAt
  by_cases h0 : s.size = 0
  · have he : s.toList.isEmpty = true := by rw [str_empty]; simp [h0]
    have hv : V = false := by rw [HV.out]; exact nameS_bad (Or.inl h0)
    subst hv
    clear h0
    go_enter Tryz.func98, Tryz.ntmps98
    go_wp2_with fail
    go_ret
    exact ⟨rfl, rfl⟩
  have he : s.toList.isEmpty = false := by rw [str_empty]; simp [h0]
  by_cases h12 : 12 < s.size
  · have h12i : (12 : Int) < (s.size : Int) := by omega
    have hv : V = false := by rw [HV.out]; exact nameS_bad (Or.inr (Or.inl h12))
    subst hv
    clear h0
    go_enter Tryz.func98, Tryz.ntmps98
    go_wp2_with fail
    go_ret
    exact ⟨rfl, rfl⟩
  have h12i : ¬ (12 : Int) < (s.size : Int) := by omega
  by_cases hd1 : s = ⟨#[46]⟩
  · have hv : V = false := by rw [HV.out]; exact nameS_bad (Or.inr (Or.inr (Or.inl hd1)))
    subst hv hd1
    clear h0 h12 h12i he HAT HV
    go_enter Tryz.func98, Tryz.ntmps98
    go_wp2_with fail
    go_ret
    exact ⟨rfl, rfl⟩
  have e1 : ¬ s.toList = [46] := toList_ne hd1
  have e1b : (s.toList == [46]) = false := by simp [e1]
  by_cases hd2 : s = ⟨#[46, 46]⟩
  · have hv : V = false := by rw [HV.out]; exact nameS_bad (Or.inr (Or.inr (Or.inr (Or.inl hd2))))
    subst hv hd2
    clear h0 h12 h12i he HAT HV e1 e1b hd1
    go_enter Tryz.func98, Tryz.ntmps98
    go_wp2_with fail
    go_ret
    exact ⟨rfl, rfl⟩
  have e2 : ¬ s.toList = [46, 46] := toList_ne hd2
  have e2b : (s.toList == [46, 46]) = false := by simp [e2]
  have hsz : s.size ≤ 12 := by omega
  have HS0 := Lib.hid h0
  have HD1 := Lib.hid hd1; have HD2 := Lib.hid hd2; have H12 := Lib.hid h12
  clear h0 h12 hd1 hd2
  go_enter Tryz.func98, Tryz.ntmps98
  go_wp2_with fail
  clear h12i he e1 e2 e1b e2b
  go_loop [21] (fun iv => ∃ k : Nat, k ≤ s.size ∧ iv = .int .i64 k ∧ Hid (∀ j, j < k → okB (bat s j) = true)) (fun iv => s.size - (intOf iv).toNat)
  case atStart => exact ⟨0, by omega, rfl, fun j hj => by omega⟩
  case round =>
    obtain ⟨k, hk, rfl, hgo⟩ := hrel
    by_cases hlt : k < s.size
    · have l1 : (k : Int) < (s.size : Int) := by omega
      have l0 : (0 : Int) ≤ (k : Int) := by omega
      have ek := HAT.out k
      obtain ⟨c, hc⟩ : ∃ c, c = bat s k := ⟨_, rfl⟩
      rw [← hc] at ek
      have HC := Lib.hid hc
      clear hc
      obtain ⟨b, hb⟩ : ∃ b, b = okB c := ⟨_, rfl⟩
      have hin := inName_any c
      rw [← hb] at hin
      have HIN := Lib.hid hin
      clear hin
      cases b with
      | true =>
        have hn : Hid (∀ j, j < k + 1 → okB (bat s j) = true) := fun j hj => by
          by_cases e : j < k
          · exact hgo.out j e
          · obtain rfl : j = k := by omega
            rw [← HC.out]; exact hb.symm
        clear hb hgo
        go_wp2_with fail
        refine (HIN.out _).mono ?_
        rintro e w' ⟨rfl, rfl⟩
        go_wp2_with fail
        go_round
        case rel => exact ⟨k + 1, by omega, by go_num, hn⟩
        case measure => simp [intOf]; omega
      | false =>
        have hv : V = false := by rw [HV.out]; exact nameS_bad (Or.inr (Or.inr (Or.inr (Or.inr ⟨k, hlt, by rw [← HC.out]; exact hb.symm⟩))))
        subst hv
        clear hb hgo
        go_wp2_with fail
        refine (HIN.out _).mono ?_
        rintro e w' ⟨rfl, rfl⟩
        go_wp2_with fail
        go_ret
        exact ⟨rfl, rfl⟩
    · obtain rfl : k = s.size := by omega
      have hv : V = true := by rw [HV.out]; exact nameS_good HS0.out H12.out HD1.out HD2.out hgo.out
      subst hv
      go_wp2_with fail
      go_ret
      exact ⟨rfl, rfl⟩

set_option maxRecDepth 100000 in
theorem allNames_any (v : Value) (xs : List ByteArray) (w : World) (h : Strs w v xs) :
    Calls Tryz.prog 87 #[v] w fun e w' => e = .returned (.bool (xs.all nameS)) ∧ w = w' := by
  obtain ⟨V, hV⟩ : ∃ V, V = xs.all nameS := ⟨_, rfl⟩
  rw [← hV]
  have HV := Lib.hid hV
  clear hV
  obtain ⟨a, c, rfl, hnc, hcm⟩ := h.form
  unfold maxLen at hcm
  have HS := Lib.hid h
  obtain ⟨n, hn⟩ : ∃ n, n = xs.length := ⟨_, rfl⟩
  have hnb : n ≤ 9223372036854775807 := by omega
  rw [← hn] at HS ⊢
  have HN := Lib.hid hn
  clear h hn hcm hnc
  go_enter Tryz.func87, Tryz.ntmps87
  go_wp2_with fail
  go_loop [7] (fun iv => ∃ k : Nat, k ≤ n ∧ iv = .int .i64 k ∧ Hid (∀ j, j < k → nameS (xs.getD j ⟨#[]⟩) = true)) (fun iv => n - (intOf iv).toNat)
  case atStart => exact ⟨0, by omega, rfl, fun j hj => by omega⟩
  case round =>
    obtain ⟨k, hk, rfl, hno⟩ := hrel
    by_cases hlt : k < n
    · have l1 : (k : Int) < (n : Int) := by omega
      have l0 : (0 : Int) ≤ (k : Int) := by omega
      obtain ⟨g, off, rfl, _, hcell⟩ := HS.out.at (k := k) (by have := HN.out; omega)
      obtain ⟨x, hx⟩ : ∃ x, x = xs.getD k ⟨#[]⟩ := ⟨_, rfl⟩
      rw [← hx] at hcell
      have HX := Lib.hid hx
      clear hx
      obtain ⟨b, hb⟩ : ∃ b, b = nameS x := ⟨_, rfl⟩
      have hin := isName_any x
      rw [← hb] at hin
      have HIN := Lib.hid hin
      clear hin
      cases b with
      | true =>
        have hn : Hid (∀ j, j < k + 1 → nameS (xs.getD j ⟨#[]⟩) = true) := fun j hj => by
          by_cases e : j < k
          · exact hno.out j e
          · obtain rfl : j = k := by omega
            rw [← HX.out]; exact hb.symm
        clear hb hno
        go_wp2_with fail
        refine (HIN.out _).mono ?_
        rintro e w' ⟨rfl, rfl⟩
        go_wp2_with fail
        go_round
        case rel => exact ⟨k + 1, by omega, by go_num, hn⟩
        case measure => simp [intOf]; omega
      | false =>
        have hv : V = false := by
          rw [HV.out, List.all_eq_false]
          have hk2 : k < xs.length := by have := HN.out; omega
          refine ⟨xs.getD k ⟨#[]⟩, by simp [List.getD, hk2], ?_⟩
          rw [← HX.out, ← hb]; simp
        subst hv
        clear hb hno
        go_wp2_with fail
        refine (HIN.out _).mono ?_
        rintro e w' ⟨rfl, rfl⟩
        go_wp2_with fail
        go_ret
        exact ⟨rfl, rfl⟩
    · obtain rfl : k = n := by omega
      have hv : V = true := by
        rw [HV.out, List.all_eq_true]
        intro x hx
        obtain ⟨i, hi, e⟩ := List.getElem_of_mem hx
        have := hno.out i (by have := HN.out; omega)
        simpa [List.getD, hi, e] using this
      subst hv
      clear hno
      go_wp2_with fail
      go_ret
      exact ⟨rfl, rfl⟩
end Go.Proofs.YtnnakllgfaaejaaGreatDoor
