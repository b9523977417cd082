/-
  The reference of permissions: compareText, comparePath, Compare, Text.
-/
import Derived.Test.YtcooacjpblhblaaDoorPmW
import Derived.Test.YtcooacjpblhblaaDoorPmT
namespace Go.Proofs.YtcooacjpblhblaaDoor
open Go.RowKit
set_option linter.unusedSimpArgs false
set_option linter.unusedVariables false

set_option maxRecDepth 100000 in
set_option maxHeartbeats 1600000 in
theorem rtext_any (a b : ByteArray) (w : World) : Calls Tryd.prog 37 #[.string a, .string b] w fun e w' => e = .returned (.int .i64 (cmpB a b)) ∧ w = w' := by
  have h := cmpB_cases a.data.toList b.data.toList
  have h' := cmpB_cases b.data.toList a.data.toList
  have hsw := cb_swap a.data.toList b.data.toList
  unfold cmpB
  rw [← ByteArray.toList_eq, ← ByteArray.toList_eq] at h h' hsw ⊢
  rcases h with ⟨h1, h2, h3⟩ | ⟨h1, h2, h3⟩ | ⟨h1, h2, h3⟩
  · rw [h1]
    clear h1 h3 h' hsw
    go_enter Tryd.func37, Tryd.ntmps37
    go_wp2_with fail
    go_ret
    exact ⟨rfl, rfl⟩
  · rw [h1]
    have h4 : (a.toList == b.toList) = true := by rw [h3]; simp
    clear h1 h3 h' hsw
    go_enter Tryd.func37, Tryd.ntmps37
    go_wp2_with fail
    go_ret
    exact ⟨rfl, rfl⟩
  · have h4 : (a.toList == b.toList) = false := beq_eq_false_iff_ne.2 h3
    rw [h1]
    clear h1 h3 h' hsw
    go_enter Tryd.func37, Tryd.ntmps37
    go_wp2_with fail
    go_ret
    exact ⟨rfl, rfl⟩

set_option maxRecDepth 100000 in
set_option maxHeartbeats 3200000 in
theorem rcmpn_any (v1 v2 : Value) (xs ys : List ByteArray) (w : World) (h1 : Strs w v1 xs) (h2 : Strs w v2 ys) :
    Calls Tryd.prog 38 #[v1, v2] w fun e w' => e = .returned (.int .i64 (cmpN xs ys)) ∧ Kept (fun _ => False) w w' := by
  obtain ⟨a1, c1, rfl, hc1, hm1⟩ := h1.form
  obtain ⟨a2, c2, rfl, hc2, hm2⟩ := h2.form
  unfold maxLen at hm1 hm2
  have H1 := Lib.hid h1; have H2 := Lib.hid h2
  obtain ⟨n, hn⟩ : ∃ n, n = xs.length := ⟨_, rfl⟩
  obtain ⟨m, hm⟩ : ∃ m, m = ys.length := ⟨_, rfl⟩
  have hnb : n ≤ 9223372036854775807 := by omega
  have hmb : m ≤ 9223372036854775807 := by omega
  obtain ⟨R, hR⟩ : ∃ R, R = cmpN xs ys := ⟨_, rfl⟩
  rw [← hn] at H1 ⊢
  rw [← hm] at H2 ⊢
  rw [← hR]
  have HN := Lib.hid hn; have HM := Lib.hid hm; have HR := Lib.hid hR
  clear h1 h2 hn hm hc1 hm1 hc2 hm2 hR
  go_enter Tryd.func38, Tryd.ntmps38
  go_wp2_with fail
  go_loopw [5, 6] (fun iv _ wr => ∃ k : Nat, k ≤ n ∧ k ≤ m ∧ iv = .int .i64 k ∧ Hid (∀ j, j < k → xs.getD j ⟨#[]⟩ = ys.getD j ⟨#[]⟩) ∧ Hid (Kept (fun _ => False) w wr)) (fun iv _ _ => n - (intOf iv).toNat)
  case atStart => exact ⟨0, by omega, by omega, rfl, fun j hj => by omega, Kept.refl _ _⟩
  case round =>
    obtain ⟨k, hkn, hkm, rfl, heq, hkr⟩ := hrel
    have l0 : (0 : Int) ≤ (k : Int) := by omega
    by_cases hlt : k < n ∧ k < m
    · obtain ⟨hl1, hl2⟩ := hlt
      have l1 : (k : Int) < (n : Int) := by omega
      have l2 : (k : Int) < (m : Int) := by omega
      obtain ⟨g, off, rfl, _, hcell⟩ := (H1.out.kept hkr.out (fun _ _ h => h)).at (k := k) (by have := HN.out; omega)
      obtain ⟨g', off', rfl, _, hcell'⟩ := (H2.out.kept hkr.out (fun _ _ h => h)).at (k := k) (by have := HM.out; omega)
      obtain ⟨x, hx⟩ : ∃ x, x = xs.getD k ⟨#[]⟩ := ⟨_, rfl⟩
      obtain ⟨y, hy⟩ : ∃ y, y = ys.getD k ⟨#[]⟩ := ⟨_, rfl⟩
      rw [← hx] at hcell
      rw [← hy] at hcell'
      have HX := Lib.hid hx; have HY := Lib.hid hy
      have HC := Lib.hid (fun W => rtext_any x y W)
      have hz : cmpB x y = 0 ↔ x = y := cmpB_zero
      obtain ⟨C, hC⟩ : ∃ C, C = cmpB x y := ⟨_, rfl⟩
      rw [← hC] at HC hz
      have HCC := Lib.hid hC
      clear hx hy hC
      by_cases h0 : C = 0
      · have hxy := hz.1 h0
        have hnx : Hid (∀ j, j < k + 1 → xs.getD j ⟨#[]⟩ = ys.getD j ⟨#[]⟩) := Lib.hid fun j hj => by
          rcases Nat.lt_or_ge j k with h | h
          · exact heq.out j h
          · obtain rfl : j = k := by omega
            rw [← HX.out, ← HY.out]; exact hxy
        subst h0
        clear hz hxy heq
        go_wp2_with fail
        go_quiet ((go_at_call 37; with_reducible exact Calls.quiet_of_same ((HC.out _).mono fun e w' h => ⟨h.1, h.2.symm⟩)))
        go_wp2_with fail
        go_roundw
        case rel => exact ⟨k + 1, by omega, by omega, by go_num, hnx, Lib.hid (hkr.out.drewN _)⟩
        case measure => simp [intOf]; omega
      · have hR2 : R = C := by
          rw [HR.out, HCC.out, HX.out, HY.out]
          exact cmpN_stop heq.out (by have := HN.out; omega) (by have := HM.out; omega) (by rw [← HX.out, ← HY.out, ← HCC.out]; exact h0)
        have h0b : (C != 0) = true := by simpa using h0
        have h0c : (C == 0) = false := beq_eq_false_iff_ne.2 h0
        subst hR2
        clear hz heq HCC HR
        go_wp2_with fail
        go_quiet ((go_at_call 37; with_reducible exact Calls.quiet_of_same ((HC.out _).mono fun e w' h => ⟨h.1, h.2.symm⟩)))
        go_wp2_with fail
        go_ret
        exact ⟨rfl, hkr.out.drewN _⟩
    · have HKW := Lib.hid hkr.out
      by_cases hnm : n < m
      · obtain rfl : k = n := by omega
        have hv : R = -1 := by rw [HR.out]; exact cmpN_right (fun i hi => heq.out i (by have := HN.out; omega)) (by have := HN.out; have := HM.out; omega)
        subst hv
        have l1 : ¬ (k : Int) < (k : Int) := by omega
        have l2 : (k : Int) < (m : Int) := by omega
        clear heq
        go_wp2_with fail
        go_ret
        exact ⟨rfl, HKW.out⟩
      · by_cases hmn : m < n
        · obtain rfl : k = m := by omega
          have hv : R = 1 := by rw [HR.out]; exact cmpN_left (fun i hi => heq.out i (by have := HM.out; omega)) (by have := HN.out; have := HM.out; omega)
          subst hv
          have l1 : (k : Int) < (n : Int) := by omega
          have l2 : ¬ (k : Int) < (k : Int) := by omega
          have l3 : ¬ (n : Int) < (k : Int) := by omega
          clear heq
          go_wp2_with fail
          go_ret
          exact ⟨rfl, HKW.out⟩
        · obtain rfl : m = n := by omega
          obtain rfl : k = m := by omega
          have hv : R = 0 := by rw [HR.out]; exact cmpN_same (fun i hi => heq.out i (by have := HN.out; omega)) (by have := HN.out; have := HM.out; omega)
          subst hv
          have l1 : ¬ (k : Int) < (k : Int) := by omega
          clear heq
          go_wp2_with fail
          go_ret
          exact ⟨rfl, HKW.out⟩

set_option maxRecDepth 100000 in
set_option maxHeartbeats 3200000 in
theorem rcmp_any (x y : Per) (hx : x.p.size ≤ 100000) (hy : y.p.size ≤ 100000) (w : World) :
    Calls Tryd.prog 20 #[perV x, perV y] w fun e w' => e = .returned (.int .i64 (cmpP x y)) ∧ Kept (fun _ => False) w w' := by
  have HA := Lib.hid (fun W => rtext_any x.a y.a W)
  have HT := Lib.hid (fun W => rtext_any x.p y.p W)
  have HSX := Lib.hid (fun W => psplit_any x.p hx W)
  have HSY := Lib.hid (fun W => psplit_any y.p hy W)
  have hc := cmpP_cases x y
  have hza : cmpB x.a y.a = 0 ↔ x.a = y.a := cmpB_zero
  have hzt := cmpT_zero x.p y.p
  obtain ⟨a, p, d⟩ := x
  obtain ⟨b, q, f⟩ := y
  unfold perV at *
  simp only at hc HA HT HSX HSY hza hzt
  generalize cmpP ⟨a, p, d⟩ ⟨b, q, f⟩ = C at *
  generalize cmpB a b = CB at *
  have HB2 := Lib.hid (Bx.new (w.alloc (.cells #[.string a, .string p, .bool d] 28)) b q f 28)
  have HB1 := Lib.hid ((Bx.new w a p d 28).stay (Kept.alloc (fun _ => False) _ (.cells #[.string b, .string q, .bool f] 28)))
  have HK := Lib.hid ((Kept.alloc (fun _ => False) w (.cells #[.string a, .string p, .bool d] 28)).then (Kept.alloc (fun _ => False) _ (.cells #[.string b, .string q, .bool f] 28)))
  have hq : (w.alloc (.cells #[.string a, .string p, .bool d] 28)).heap.size = w.heap.size + 1 := by simp
  rw [hq] at HB2
  clear hq hx hy
  rcases hc with ⟨h1, rfl⟩ | hc
  · have h0 : ¬ C = 0 := fun e => h1 (hza.1 e)
    have h0b : (C != 0) = true := by simpa using h0
    have h0c : (C == 0) = false := beq_eq_false_iff_ne.2 h0
    clear hza hzt
    go_enter Tryd.func20, Tryd.ntmps20
    go_wp2_with fail
    refine (HA.out _).mono ?_
    rintro e w2 ⟨rfl, rfl⟩
    go_wp2_with fail
    go_ret
    exact ⟨rfl, HK.out⟩
  · obtain rfl : CB = 0 := hza.2 (by rcases hc with h | h <;> exact h.1)
    -- behind the actions: the paths
    have hc2 : (p ≠ q ∧ C = cmpT p q) ∨ (p = q ∧ ((d = f ∧ C = 0) ∨ (d = false ∧ f = true ∧ C = -1) ∨ (d = true ∧ f = false ∧ C = 1))) := by
      rcases hc with h | h
      · exact Or.inl ⟨h.2.1, h.2.2⟩
      · exact Or.inr ⟨h.2.1, h.2.2⟩
    have hpc : (cmpT p q = 0 ↔ p = q) := hzt
    clear hza hc
    go_enter Tryd.func20, Tryd.ntmps20
    go_wp2_with fail
    refine (HA.out _).mono ?_
    generalize (w.alloc (.cells #[.string a, .string p, .bool d] 28)).alloc (.cells #[.string b, .string q, .bool f] 28) = W1 at *
    generalize w.heap.size = Q at *
    rintro e w2 ⟨rfl, rfl⟩
    obtain ⟨c0, c1, c2⟩ := HB1.out
    obtain ⟨b0, b1, b2⟩ := HB2.out
    clear HA
    have HC2 := Lib.hid hc2; have HZT := Lib.hid hzt
    clear hc2 hzt hpc
    go_wp2_with fail
    refine (HSX.out _).mono ?_
    rintro e w3 ⟨v3, rfl, h3⟩
    have HR3 := Lib.hid h3
    obtain ⟨c0, c1, c2⟩ := HB1.out.stay h3.kept
    obtain ⟨b0, b1, b2⟩ := HB2.out.stay h3.kept
    clear h3
    go_wp2_with fail
    refine (HSY.out _).mono ?_
    rintro e w4 ⟨v4, rfl, h4⟩
    have HK4 := Lib.hid ((HK.out.then HR3.out.kept).then h4.kept)
    obtain ⟨c0, c1, c2⟩ := HB1.out.stay (HR3.out.kept.then h4.kept)
    obtain ⟨b0, b1, b2⟩ := HB2.out.stay (HR3.out.kept.then h4.kept)
    have HR4 := Lib.hid h4
    clear h4 HSX HSY HB1 HB2 HK
    cases hp : namesS p with
    | none =>
      have hct : cmpT p q = cmpB p q := by unfold cmpT; rw [hp]
      have HTT : Hid (∀ W, Calls Tryd.prog 37 #[.string p, .string q] W fun e w' => e = .returned (.int .i64 (cmpT p q)) ∧ Kept (fun _ => False) W w') := fun W => by rw [hct]; exact (HT.out W).mono fun e w' h => ⟨h.1, by rw [h.2]; exact Kept.refl _ _⟩
      clear hct hp HR3 HR4 HT
      obtain ⟨CT, hCT⟩ : ∃ CT, CT = cmpT p q := ⟨_, rfl⟩
      rw [← hCT] at HTT HC2 HZT
      have hc2 := HC2.out
      have hzt := HZT.out
      clear hCT HC2 HZT
      rcases hc2 with ⟨h1, rfl⟩ | ⟨h1, hc2⟩
      · have h0 : ¬ C = 0 := fun e => h1 (hzt.1 e)
        have h0b : (C != 0) = true := by simpa using h0
        have h0c : (C == 0) = false := beq_eq_false_iff_ne.2 h0
        clear hzt h1
        go_wp2_with fail
        refine (HTT.out _).mono ?_
        rintro e w5 ⟨rfl, k5⟩
        have K5 := Lib.hid (HK4.out.then k5)
        clear k5
        go_wp2_with fail
        go_ret
        exact ⟨rfl, K5.out⟩
      · obtain rfl : CT = 0 := hzt.2 h1
        clear hzt h1
        go_wp2_with fail
        refine (HTT.out _).mono ?_
        rintro e w5 ⟨rfl, k5⟩
        have K5 := Lib.hid (HK4.out.then k5)
        have f : ∀ {p : Addr} {v : Value}, w4.cell? p = some v → w5.cell? p = some v := fun {p v} h => (k5.cell (World.block_lt_of_cell? w4 _ h) (fun h => h)).trans h
        replace c2 := f c2
        replace b2 := f b2
        clear f k5
        rcases hc2 with ⟨rfl, rfl⟩ | ⟨rfl, rfl, rfl⟩ | ⟨rfl, rfl, rfl⟩
        all_goals (try cases d)
        all_goals go_wp2_with fail
        all_goals go_ret
        all_goals exact ⟨rfl, K5.out⟩
    | some xs =>
      cases hq : namesS q with
      | none =>
        have hct : cmpT p q = cmpB p q := by unfold cmpT; rw [hp, hq]
        have HTT : Hid (∀ W, Calls Tryd.prog 37 #[.string p, .string q] W fun e w' => e = .returned (.int .i64 (cmpT p q)) ∧ Kept (fun _ => False) W w') := fun W => by rw [hct]; exact (HT.out W).mono fun e w' h => ⟨h.1, by rw [h.2]; exact Kept.refl _ _⟩
        clear hct hp hq HR3 HR4 HT
        obtain ⟨CT, hCT⟩ : ∃ CT, CT = cmpT p q := ⟨_, rfl⟩
        rw [← hCT] at HTT HC2 HZT
        have hc2 := HC2.out
        have hzt := HZT.out
        clear hCT HC2 HZT
        rcases hc2 with ⟨h1, rfl⟩ | ⟨h1, hc2⟩
        · have h0 : ¬ C = 0 := fun e => h1 (hzt.1 e)
          have h0b : (C != 0) = true := by simpa using h0
          have h0c : (C == 0) = false := beq_eq_false_iff_ne.2 h0
          clear hzt h1
          go_wp2_with fail
          refine (HTT.out _).mono ?_
          rintro e w5 ⟨rfl, k5⟩
          have K5 := Lib.hid (HK4.out.then k5)
          clear k5
          go_wp2_with fail
          go_ret
          exact ⟨rfl, K5.out⟩
        · obtain rfl : CT = 0 := hzt.2 h1
          clear hzt h1
          go_wp2_with fail
          refine (HTT.out _).mono ?_
          rintro e w5 ⟨rfl, k5⟩
          have K5 := Lib.hid (HK4.out.then k5)
          have f : ∀ {p : Addr} {v : Value}, w4.cell? p = some v → w5.cell? p = some v := fun {p v} h => (k5.cell (World.block_lt_of_cell? w4 _ h) (fun h => h)).trans h
          replace c2 := f c2
          replace b2 := f b2
          clear f k5
          rcases hc2 with ⟨rfl, rfl⟩ | ⟨rfl, rfl, rfl⟩ | ⟨rfl, rfl, rfl⟩
          all_goals (try cases d)
          all_goals go_wp2_with fail
          all_goals go_ret
          all_goals exact ⟨rfl, K5.out⟩
      | some ys =>
        have s3 := (rsplit_names HR3.out hp).kept HR4.out.kept (fun _ _ h => h)
        have s4 := rsplit_names HR4.out hq
        have hct : cmpT p q = cmpN xs ys := by unfold cmpT; rw [hp, hq]
        have hcc := rcmpn_any v3 v4 xs ys w4 s3 s4
        rw [← hct] at hcc
        have HTT := Lib.hid hcc
        clear hct hp hq HR3 HR4 HT hcc s3 s4
        obtain ⟨CT, hCT⟩ : ∃ CT, CT = cmpT p q := ⟨_, rfl⟩
        rw [← hCT] at HTT HC2 HZT
        have hc2 := HC2.out
        have hzt := HZT.out
        clear hCT HC2 HZT
        rcases hc2 with ⟨h1, rfl⟩ | ⟨h1, hc2⟩
        · have h0 : ¬ C = 0 := fun e => h1 (hzt.1 e)
          have h0b : (C != 0) = true := by simpa using h0
          have h0c : (C == 0) = false := beq_eq_false_iff_ne.2 h0
          clear hzt h1
          go_wp2_with fail
          refine (HTT.out).mono ?_
          rintro e w5 ⟨rfl, k5⟩
          have K5 := Lib.hid (HK4.out.then k5)
          clear k5
          go_wp2_with fail
          go_ret
          exact ⟨rfl, K5.out⟩
        · obtain rfl : CT = 0 := hzt.2 h1
          clear hzt h1
          go_wp2_with fail
          refine (HTT.out).mono ?_
          rintro e w5 ⟨rfl, k5⟩
          have K5 := Lib.hid (HK4.out.then k5)
          have f : ∀ {p : Addr} {v : Value}, w4.cell? p = some v → w5.cell? p = some v := fun {p v} h => (k5.cell (World.block_lt_of_cell? w4 _ h) (fun h => h)).trans h
          replace c2 := f c2
          replace b2 := f b2
          clear f k5
          rcases hc2 with ⟨rfl, rfl⟩ | ⟨rfl, rfl, rfl⟩ | ⟨rfl, rfl, rfl⟩
          all_goals (try cases d)
          all_goals go_wp2_with fail
          all_goals go_ret
          all_goals exact ⟨rfl, K5.out⟩
end Go.Proofs.YtcooacjpblhblaaDoor
