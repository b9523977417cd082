/-
  arbaclaw08.NamesBytes returns true: the bytes of a table, which are read back.
-/
import Derived.Test.YtmhfbcapmlofbaaNamE
import Derived.Test.YtmhfbcapmlofbaaNamRd
import Derived.Test.YtmhfbcapmlofbaaNamRb
namespace Go.Proofs.Ytmhfbcapmlofbaa
open Go.RowKit
attribute [local go_sem ↓] Go.wp_at_zero Go.wp_at_succ
set_option linter.unusedSimpArgs false

set_option maxRecDepth 100000 in
set_option maxHeartbeats 6400000 in
theorem bytes8_any (a : Option Addr) (la ca : Nat) (na : List Nat) (w : World) (ha : InBytes w (.slice a la ca) na) :
    Calls Try.prog 4 #[.slice a la ca] w fun e w' => e = .returned (.bool true) ∧ Kept (fun _ => False) w w' := by
  obtain ⟨i0, hi, hz0, hz1, hz2⟩ := info_parts info_str
  have HA := Lib.hid ha
  clear ha
  go_enter Try.func4, Try.ntmps4
  go_wp2_with fail
  refine (awake8_any w).mono ?_
  rintro e w0 ⟨rfl, k0⟩
  have K0 := Lib.hid k0
  clear k0
  go_wp2_with fail
  have hin1 := HA.out.reads.kept K0.out (fun _ _ h => h)
  refine (words8_any a la ca na w0 ⟨hin1, HA.out.byte⟩).mono ?_
  rintro e w1 ⟨yv, rfl, hwd⟩
  obtain ⟨ya1, yc1, hyf, _, hym⟩ := (strs_own hwd.row).form
  have hyl1 : (textsOf (na.take 24)).length ≤ 24 := by rw [textsOf_length, List.length_take]; omega
  have HY1 := Lib.hid (strs_own hwd.row)
  have K1 := Lib.hid (K0.out.then hwd.kept)
  subst hyf
  clear hin1 hwd hym
  generalize textsOf (na.take 24) = ys1 at HY1 hyl1 ⊢
  obtain ⟨Y1, hY⟩ : ∃ Y, Y = ys1.length := ⟨_, rfl⟩
  rw [← hY] at HY1 hyl1 ⊢
  have HYL1 := Lib.hid hY
  clear hY
  go_wp2_with fail
  go_loopw [3, 15] (fun xv iv wr => ∃ k : Nat, k ≤ Y1 ∧ iv = .int .i64 k ∧ ∃ N : Nat, ∃ xa xc, N ≤ k ∧ xv = .slice xa N xc ∧ Hid (∃ xs, EqInv w1 wr (.slice xa N xc) xs ∧ xs.length = N)) (fun _ iv _ => Y1 - (intOf iv).toNat)
  case atStart => exact ⟨0, by omega, rfl, 0, none, 0, by omega, rfl, ⟨[], EqInv.start w1, rfl⟩⟩
  case round =>
    obtain ⟨k1, hk, rfl, N1, xa1, xc1, hNk, rfl, hinv⟩ := hrel
    obtain ⟨xs1, hin, hxl⟩ := hinv.out
    have HIN := Lib.hid hin; have HXL := Lib.hid hxl
    clear hin hxl hinv
    by_cases hlt : k1 < Y1
    · have l1 : (k1 : Int) < (Y1 : Int) := by omega
      have l0 : (0 : Int) ≤ (k1 : Int) := by omega
      obtain ⟨gy, oy, rfl, _, hcell⟩ := (HY1.out.kept HIN.out.kept (fun _ _ h => h)).at (k := k1) (by have := HYL1.out; omega)
      generalize ys1.getD k1 ⟨#[]⟩ = s at hcell
      have hchk := rcheck_any _ xs1 s 100 wr (strs_own HIN.out.row) (by have := HXL.out; omega)
      by_cases hr : refS xs1 s 100 = 0
      · rw [hr] at hchk
        have HCK := Lib.hid hchk; have HR := Lib.hid hr
        have hm1 : N1 + 1 ≤ maxLen := by unfold maxLen; omega
        have hm2 : (N1 + 1) * 16 ≤ 140737488355328 := by omega
        have hrow := HIN.out.row
        rw [HXL.out] at hrow
        have HRO := Lib.hid hrow
        clear hchk hr hrow
        go_wp2_with fail
        refine HCK.out.mono ?_
        rintro e w3 ⟨rfl, k3⟩
        have HO3 := Lib.hid (k3.owns HRO.out (fun _ _ h => h))
        have HK3 := Lib.hid (HIN.out.kept.then k3)
        have hsz3 := HK3.out.size
        clear k3
        go_wp2_with (at_builtin; refine wpList_append_lies _ rfl _ _ _ rfl w1.heap.size 9 i0 _ 1 16 Try.underlying23 hi hz0 hz1 hz2 rfl (by omega) (.slice xa1 N1 xc1) N1 _ rfl (HO3.out.alloc _) ⟨w3.heap.size, 0, none⟩ 1 1 [.string s] rfl rfl (World.news_of_block (cs := #[.string s]) (t := 9) (fr := (0, 0)) (heap_alloc_new w3 _)) (by simp [Value.oneCell']) (by omega) hm1 hm2 (by simp; omega) (w3.heap.size + 1) (by simp) ?_)
        intro gg cap w5 hown5 hgrow hat hgl
        have HI5 : Hid (∃ xs, EqInv w1 w5 (.slice (some ⟨gg, 0, none⟩) (N1 + 1) cap) xs ∧ xs.length = N1 + 1) := by
          have kp : Kept (blk (.slice xa1 N1 xc1)) w3 w5 := (Kept.alloc (fun _ => False) w3 _).trans (Kept.ofGrown (S := blk (.slice xa1 N1 xc1)) hgrow fun k e => e) (fun _ _ h => h.elim) (fun _ _ h => h)
          have hxl := HXL.out
          refine ⟨xs1 ++ [s], ⟨?_, HK3.out.trans kp (fun _ _ h => h) (fun i hi e => by have := (HO3.out.lt i e).1; omega), HIN.out.good.snoc HR.out⟩, by rw [List.length_append, hxl]; rfl⟩
          rw [List.length_append, hxl, List.map_append]
          exact hown5
        clear hown5 hgrow hat hgl HIN HO3 HK3 HRO HCK HR
        go_wp2
        go_roundw
        case rel => first | exact ⟨k1 + 1, by omega, by go_num, N1 + 1, _, _, by omega, rfl, HI5⟩ | ((repeat apply Exists.intro); exact ⟨⟨k1 + 1, by omega, by go_num, N1 + 1, _, _, by omega, rfl, HI5⟩, rfl⟩)
        case measure => simp [intOf]; omega
      · generalize refS xs1 s 100 = R at hchk hr
        have HCK := Lib.hid hchk
        clear hchk
        go_wp2_with fail
        refine HCK.out.mono ?_
        rintro e w3 ⟨rfl, k3⟩
        have HI3 : Hid (∃ xs, EqInv w1 w3 (.slice xa1 N1 xc1) xs ∧ xs.length = N1) := ⟨xs1, HIN.out.on k3, HXL.out⟩
        clear k3 HIN HCK
        go_wp2_with fail
        go_roundw
        case rel => first | exact ⟨k1 + 1, by omega, by go_num, N1, _, _, by omega, rfl, HI3⟩ | ((repeat apply Exists.intro); exact ⟨⟨k1 + 1, by omega, by go_num, N1, _, _, by omega, rfl, HI3⟩, rfl⟩)
        case measure => simp [intOf]; omega
    · have l1 : ¬ (k1 : Int) < (Y1 : Int) := by omega
      have hN1 : N1 ≤ 24 := by omega
      have HG1 := Lib.hid HIN.out.good
      have HX1 := Lib.hid (strs_own HIN.out.row)
      have K2 := Lib.hid (K1.out.then HIN.out.kept)
      have hl1 : xs1.length ≤ 24 := by have := HXL.out; omega
      clear HIN hlt HXL
      go_wp2_with fail
      clear l1
      refine (tof_any _ xs1 100 wr HX1.out (fun x hx => by have := HG1.out.short x hx; omega)).mono ?_
      rintro e w3 (⟨hne, _⟩ | ⟨_, g1, rfl, hof⟩)
      · exact absurd (by rw [HG1.out.of]) hne
      have HX3 := Lib.hid (HX1.out.kept hof.kept (fun _ _ h => h))
      have K3 := Lib.hid (K2.out.then hof.kept)
      obtain ⟨t1v, t1m, t1n, t1D, ht1, _, _⟩ := hof.tab
      have HT1 := Lib.hid ht1
      clear hof HX1 K2 ht1
      have HB1 := Lib.hid (fun (W : World) (k : Kept (fun _ => False) w3 W) => tbytes_any W g1 xs1 t1v t1m t1n t1D (HT1.out.stay k))
      have HRB := Lib.hid (fun (W : World) (k : Kept (fun _ => False) w3 W) => rbytes8_any _ xs1 W (HX3.out.kept k (fun _ _ h => h)) (fun x hx => by have := HG1.out.short x hx; omega) (by omega))
      have hR1 : Hid (∀ v W, Reads W v (enc xs1.length ++ encL xs1) → (convert 28 9 v).run Try.prog W = .ok (.string (str8 xs1)) W) := fun v W h => reads_str h
      have HRS : Hid (readS (enc xs1.length ++ encL xs1) = some xs1) := readS_back (by have := ofS_256 xs1 [] (by rw [List.nil_append]; exact HG1.out.of); rwa [List.nil_append] at this)
      have HRD := Lib.hid (fun (W : World) (v : Value) (h : Reads W v (enc xs1.length ++ encL xs1)) => nread_any v (enc xs1.length ++ encL xs1) W h (enc8_byte xs1) (by have h1 := encL_len xs1 HG1.out.short; have h2 := enc_len (v := xs1.length) (by omega); rw [List.length_append]; omega))
      have D3 := Lib.hid ((Kept.refl (fun _ => False) w3).drew)
      generalize enc xs1.length ++ encL xs1 = E1 at hR1 HRS HRD HB1 HRB
      generalize str8 xs1 = S1 at hR1
      clear HG1 hl1
      go_wp2_with fail
      refine wp_region_any (by kernel_rfl) ?_
      try (change wpAny _ _ _ _ _ _ _ (World.drew _))
      refine wpAny_take (i := 0) (v := .int .i64 0) rfl (by kernel_rfl) (by kernel_rfl) (by kernel_rfl) (fun _ _ _ h => h) (Or.inl ⟨by simp [Region.wanted, yielded], fun W => by go_simp⟩) ?_
      try (simp only [Act.put, List.getElem_toArray, List.getElem_cons_succ, List.getElem_cons_zero, List.setIfInBounds_toArray, List.set_cons_zero, List.set_cons_succ])
      refine wpAny_take (i := 1) (v := .bool false) rfl (by kernel_rfl) (by kernel_rfl) (by kernel_rfl) (fun _ _ _ h => h) (Or.inl ⟨by simp [Region.wanted, yielded], fun W => by go_simp⟩) ?_
      try (simp only [Act.put, List.getElem_toArray, List.getElem_cons_succ, List.getElem_cons_zero, List.setIfInBounds_toArray, List.set_cons_zero, List.set_cons_succ])
      refine wpAny_take (i := 2) (v := .bool false) rfl (by kernel_rfl) (by kernel_rfl) (by kernel_rfl) (fun _ _ _ h => h) (Or.inl ⟨by simp [Region.wanted, yielded], fun W => by go_simp⟩) ?_
      try (simp only [Act.put, List.getElem_toArray, List.getElem_cons_succ, List.getElem_cons_zero, List.setIfInBounds_toArray, List.set_cons_zero, List.set_cons_succ])
      refine wpAny_take (i := 3) (v := .pointer (some ⟨g1, 0, none⟩)) rfl (by kernel_rfl) (by kernel_rfl) (by kernel_rfl) (fun _ _ _ h => h) (Or.inl ⟨by simp [Region.wanted, yielded], fun W => by go_simp⟩) ?_
      try (simp only [Act.put, List.getElem_toArray, List.getElem_cons_succ, List.getElem_cons_zero, List.setIfInBounds_toArray, List.set_cons_zero, List.set_cons_succ])
      refine wpAny_take (i := 6) (v := .slice xa1 N1 xc1) rfl (by kernel_rfl) (by kernel_rfl) (by kernel_rfl) (fun _ _ _ h => h) (Or.inl ⟨by simp [Region.wanted, yielded], fun W => by go_simp⟩) ?_
      try (simp only [Act.put, List.getElem_toArray, List.getElem_cons_succ, List.getElem_cons_zero, List.setIfInBounds_toArray, List.set_cons_zero, List.set_cons_succ])
      refine wpAny_ready (rs := [4]) (by kernel_rfl) (by simp) ?_
      refine AllReady.cons (o := _) rfl (fun K hK => ?_) AllReady.nil
      rw [if_pos (by simp [Region.wanted, yielded])]
      go_simp
      go_at_call 15
      refine (HB1.out w3.drew D3.out).mono ?_
      rintro e w5 ⟨v5, rfl, f5, k5⟩; have D5 := Lib.hid (D3.out.then k5); have F5 := Lib.hid f5.reads; have c5 := hR1.out v5 w5 f5.reads; clear f5 k5
      go_wp2_with fail
      try (refine hK _ _ ?_)
      try (clear hK K)
      try (simp only [Act.put, List.getElem_toArray, List.getElem_cons_succ, List.getElem_cons_zero, List.setIfInBounds_toArray, List.set_cons_zero, List.set_cons_succ])
      refine wpAny_ready (rs := [5, 7]) (by kernel_rfl) (by simp) ?_
      refine AllReady.cons (o := _) rfl (fun K hK => ?_) (AllReady.cons (o := _) rfl (fun K hK => ?_) AllReady.nil)
      · rw [if_pos (by simp [Region.wanted, yielded])]
        go_simp
        try (refine hK _ _ ?_)
        try (clear hK K)
        try (simp only [Act.put, List.getElem_toArray, List.getElem_cons_succ, List.getElem_cons_zero, List.setIfInBounds_toArray, List.set_cons_zero, List.set_cons_succ])
        refine wpAny_ready (rs := [7]) (by kernel_rfl) (by simp) ?_
        refine AllReady.cons (o := _) rfl (fun K hK => ?_) AllReady.nil
        rw [if_pos (by simp [Region.wanted, yielded])]
        go_simp
        go_at_call 16
        refine (HRB.out w5 D5.out).mono ?_
        rintro e w6 ⟨v6, rfl, f6, k6⟩; have D6 := Lib.hid (D5.out.then k6); have c5b := hR1.out v5 w6 (F5.out.kept k6 (fun _ _ h => h)); have c6 := hR1.out v6 w6 f6.reads; clear f6 k6
        go_wp2_with fail
        try (refine hK _ _ ?_)
        try (clear hK K)
        try (simp only [Act.put, List.getElem_toArray, List.getElem_cons_succ, List.getElem_cons_zero, List.setIfInBounds_toArray, List.set_cons_zero, List.set_cons_succ])
        refine wpAny_ready (rs := [8]) (by kernel_rfl) (by simp) ?_
        refine AllReady.cons (o := _) rfl (fun K hK => ?_) AllReady.nil
        rw [if_pos (by simp [Region.wanted, yielded])]
        go_simp
        try (refine hK _ _ ?_)
        try (clear hK K)
        try (simp only [Act.put, List.getElem_toArray, List.getElem_cons_succ, List.getElem_cons_zero, List.setIfInBounds_toArray, List.set_cons_zero, List.set_cons_succ])
        refine wpAny_take (i := 9) (v := .bool false) rfl (by kernel_rfl) (by kernel_rfl) (by kernel_rfl) (fun _ _ _ h => h) (Or.inl ⟨by simp [Region.wanted, yielded], fun W => by go_simp⟩) ?_
        try (simp only [Act.put, List.getElem_toArray, List.getElem_cons_succ, List.getElem_cons_zero, List.setIfInBounds_toArray, List.set_cons_zero, List.set_cons_succ])
        refine wpAny_take (i := 10) (v := .bool false) rfl (by kernel_rfl) (by kernel_rfl) (by kernel_rfl) (fun _ _ _ h => h) (Or.inl ⟨by simp [Region.wanted, yielded], fun W => by go_simp⟩) ?_
        try (simp only [Act.put, List.getElem_toArray, List.getElem_cons_succ, List.getElem_cons_zero, List.setIfInBounds_toArray, List.set_cons_zero, List.set_cons_succ])
        refine wpAny_done (by kernel_rfl) ?_ _
        go_wp2_with fail
        refine (HB1.out w6 D6.out).mono ?_
        rintro e w7 ⟨v7, rfl, f7, k7⟩
        have D7 := Lib.hid (D6.out.then k7)
        have RE := Lib.hid f7.reads
        clear f7 k7
        go_wp2_with fail
        refine (HRD.out w7 v7 RE.out).mono ?_
        rintro e w8 (⟨hn, _⟩ | ⟨ys, g2, hys, rfl, hof8⟩)
        · rw [HRS.out] at hn
          cases hn
        · obtain rfl : xs1 = ys := by
            rw [HRS.out] at hys
            exact Option.some.inj hys
          have HOF8 := Lib.hid hof8
          have D8 := Lib.hid (D7.out.then hof8.kept)
          clear hof8 hys RE
          obtain ⟨t2v, t2m, t2n, t2D, ht2, _, _⟩ := HOF8.out.tab
          have HT2 := Lib.hid ht2
          clear ht2
          have HQ := Lib.hid (fun (W : World) (k : Kept (fun _ => False) w8 W) => tequal_any W g2 g1 xs1 xs1 t2v t1v t2m t1m t2n t1n t2D t1D (HT2.out.stay k) (HT1.out.stay (D8.out.then k)))
          have HQ2 := Lib.hid (fun (W : World) (k : Kept (fun _ => False) w8 W) => tequal_any W g1 g2 xs1 xs1 t1v t2v t1m t2m t1n t2n t1D t2D (HT1.out.stay (D8.out.then k)) (HT2.out.stay k))
          have HNM := Lib.hid (fun (W : World) (k : Kept (fun _ => False) w8 W) => tnames_any W g2 xs1 t2v t2m t2n t2D (HT2.out.stay k))
          rw [show decide (xs1 = xs1) = true by simp] at HQ HQ2
          go_wp2_with fail
          refine (HQ.out w8 (Kept.refl _ _)).mono ?_
          rintro e w9 ⟨rfl, k9⟩
          have E9 := Lib.hid k9
          clear k9
          go_wp2_with fail
          refine (HQ2.out w9 E9.out).mono ?_
          rintro e w10 ⟨rfl, k10⟩
          have E10 := Lib.hid (E9.out.then k10)
          clear k10
          go_wp2_with fail
          refine (HNM.out w10 E10.out).mono ?_
          rintro e w11 ⟨v11, rfl, hown11, k11⟩
          have E11 := Lib.hid (E10.out.then k11)
          have HO11 := Lib.hid (strs_own hown11)
          clear hown11 k11
          go_wp2_with fail
          refine (rsame8_any v11 _ xs1 xs1 w11 HO11.out (HX3.out.kept (D8.out.then E11.out) (fun _ _ h => h))).mono ?_
          rw [show decide (xs1 = xs1) = true by simp]
          rintro e w12 ⟨rfl, k12⟩
          have E12 := Lib.hid (E11.out.then k12)
          clear k12
          go_wp2_with fail
          go_ret
          exact ⟨rfl, K3.out.then (D8.out.then E12.out)⟩
      · rw [if_pos (by simp [Region.wanted, yielded])]
        go_simp
        go_at_call 16
        refine (HRB.out w5 D5.out).mono ?_
        rintro e w6 ⟨v6, rfl, f6, k6⟩; have D6 := Lib.hid (D5.out.then k6); have c5b := hR1.out v5 w6 (F5.out.kept k6 (fun _ _ h => h)); have c6 := hR1.out v6 w6 f6.reads; clear f6 k6
        go_wp2_with fail
        try (refine hK _ _ ?_)
        try (clear hK K)
        try (simp only [Act.put, List.getElem_toArray, List.getElem_cons_succ, List.getElem_cons_zero, List.setIfInBounds_toArray, List.set_cons_zero, List.set_cons_succ])
        refine wpAny_ready (rs := [5, 8]) (by kernel_rfl) (by simp) ?_
        refine AllReady.cons (o := _) rfl (fun K hK => ?_) (AllReady.cons (o := _) rfl (fun K hK => ?_) AllReady.nil)
        · rw [if_pos (by simp [Region.wanted, yielded])]
          go_simp
          try (refine hK _ _ ?_)
          try (clear hK K)
          try (simp only [Act.put, List.getElem_toArray, List.getElem_cons_succ, List.getElem_cons_zero, List.setIfInBounds_toArray, List.set_cons_zero, List.set_cons_succ])
          refine wpAny_ready (rs := [8]) (by kernel_rfl) (by simp) ?_
          refine AllReady.cons (o := _) rfl (fun K hK => ?_) AllReady.nil
          rw [if_pos (by simp [Region.wanted, yielded])]
          go_simp
          try (refine hK _ _ ?_)
          try (clear hK K)
          try (simp only [Act.put, List.getElem_toArray, List.getElem_cons_succ, List.getElem_cons_zero, List.setIfInBounds_toArray, List.set_cons_zero, List.set_cons_succ])
          refine wpAny_take (i := 9) (v := .bool false) rfl (by kernel_rfl) (by kernel_rfl) (by kernel_rfl) (fun _ _ _ h => h) (Or.inl ⟨by simp [Region.wanted, yielded], fun W => by go_simp⟩) ?_
          try (simp only [Act.put, List.getElem_toArray, List.getElem_cons_succ, List.getElem_cons_zero, List.setIfInBounds_toArray, List.set_cons_zero, List.set_cons_succ])
          refine wpAny_take (i := 10) (v := .bool false) rfl (by kernel_rfl) (by kernel_rfl) (by kernel_rfl) (fun _ _ _ h => h) (Or.inl ⟨by simp [Region.wanted, yielded], fun W => by go_simp⟩) ?_
          try (simp only [Act.put, List.getElem_toArray, List.getElem_cons_succ, List.getElem_cons_zero, List.setIfInBounds_toArray, List.set_cons_zero, List.set_cons_succ])
          refine wpAny_done (by kernel_rfl) ?_ _
          go_wp2_with fail
          refine (HB1.out w6 D6.out).mono ?_
          rintro e w7 ⟨v7, rfl, f7, k7⟩
          have D7 := Lib.hid (D6.out.then k7)
          have RE := Lib.hid f7.reads
          clear f7 k7
          go_wp2_with fail
          refine (HRD.out w7 v7 RE.out).mono ?_
          rintro e w8 (⟨hn, _⟩ | ⟨ys, g2, hys, rfl, hof8⟩)
          · rw [HRS.out] at hn
            cases hn
          · obtain rfl : xs1 = ys := by
              rw [HRS.out] at hys
              exact Option.some.inj hys
            have HOF8 := Lib.hid hof8
            have D8 := Lib.hid (D7.out.then hof8.kept)
            clear hof8 hys RE
            obtain ⟨t2v, t2m, t2n, t2D, ht2, _, _⟩ := HOF8.out.tab
            have HT2 := Lib.hid ht2
            clear ht2
            have HQ := Lib.hid (fun (W : World) (k : Kept (fun _ => False) w8 W) => tequal_any W g2 g1 xs1 xs1 t2v t1v t2m t1m t2n t1n t2D t1D (HT2.out.stay k) (HT1.out.stay (D8.out.then k)))
            have HQ2 := Lib.hid (fun (W : World) (k : Kept (fun _ => False) w8 W) => tequal_any W g1 g2 xs1 xs1 t1v t2v t1m t2m t1n t2n t1D t2D (HT1.out.stay (D8.out.then k)) (HT2.out.stay k))
            have HNM := Lib.hid (fun (W : World) (k : Kept (fun _ => False) w8 W) => tnames_any W g2 xs1 t2v t2m t2n t2D (HT2.out.stay k))
            rw [show decide (xs1 = xs1) = true by simp] at HQ HQ2
            go_wp2_with fail
            refine (HQ.out w8 (Kept.refl _ _)).mono ?_
            rintro e w9 ⟨rfl, k9⟩
            have E9 := Lib.hid k9
            clear k9
            go_wp2_with fail
            refine (HQ2.out w9 E9.out).mono ?_
            rintro e w10 ⟨rfl, k10⟩
            have E10 := Lib.hid (E9.out.then k10)
            clear k10
            go_wp2_with fail
            refine (HNM.out w10 E10.out).mono ?_
            rintro e w11 ⟨v11, rfl, hown11, k11⟩
            have E11 := Lib.hid (E10.out.then k11)
            have HO11 := Lib.hid (strs_own hown11)
            clear hown11 k11
            go_wp2_with fail
            refine (rsame8_any v11 _ xs1 xs1 w11 HO11.out (HX3.out.kept (D8.out.then E11.out) (fun _ _ h => h))).mono ?_
            rw [show decide (xs1 = xs1) = true by simp]
            rintro e w12 ⟨rfl, k12⟩
            have E12 := Lib.hid (E11.out.then k12)
            clear k12
            go_wp2_with fail
            go_ret
            exact ⟨rfl, K3.out.then (D8.out.then E12.out)⟩
        · rw [if_pos (by simp [Region.wanted, yielded])]
          go_simp
          try (refine hK _ _ ?_)
          try (clear hK K)
          try (simp only [Act.put, List.getElem_toArray, List.getElem_cons_succ, List.getElem_cons_zero, List.setIfInBounds_toArray, List.set_cons_zero, List.set_cons_succ])
          refine wpAny_ready (rs := [5]) (by kernel_rfl) (by simp) ?_
          refine AllReady.cons (o := _) rfl (fun K hK => ?_) AllReady.nil
          rw [if_pos (by simp [Region.wanted, yielded])]
          go_simp
          try (refine hK _ _ ?_)
          try (clear hK K)
          try (simp only [Act.put, List.getElem_toArray, List.getElem_cons_succ, List.getElem_cons_zero, List.setIfInBounds_toArray, List.set_cons_zero, List.set_cons_succ])
          refine wpAny_take (i := 9) (v := .bool false) rfl (by kernel_rfl) (by kernel_rfl) (by kernel_rfl) (fun _ _ _ h => h) (Or.inl ⟨by simp [Region.wanted, yielded], fun W => by go_simp⟩) ?_
          try (simp only [Act.put, List.getElem_toArray, List.getElem_cons_succ, List.getElem_cons_zero, List.setIfInBounds_toArray, List.set_cons_zero, List.set_cons_succ])
          refine wpAny_take (i := 10) (v := .bool false) rfl (by kernel_rfl) (by kernel_rfl) (by kernel_rfl) (fun _ _ _ h => h) (Or.inl ⟨by simp [Region.wanted, yielded], fun W => by go_simp⟩) ?_
          try (simp only [Act.put, List.getElem_toArray, List.getElem_cons_succ, List.getElem_cons_zero, List.setIfInBounds_toArray, List.set_cons_zero, List.set_cons_succ])
          refine wpAny_done (by kernel_rfl) ?_ _
          go_wp2_with fail
          refine (HB1.out w6 D6.out).mono ?_
          rintro e w7 ⟨v7, rfl, f7, k7⟩
          have D7 := Lib.hid (D6.out.then k7)
          have RE := Lib.hid f7.reads
          clear f7 k7
          go_wp2_with fail
          refine (HRD.out w7 v7 RE.out).mono ?_
          rintro e w8 (⟨hn, _⟩ | ⟨ys, g2, hys, rfl, hof8⟩)
          · rw [HRS.out] at hn
            cases hn
          · obtain rfl : xs1 = ys := by
              rw [HRS.out] at hys
              exact Option.some.inj hys
            have HOF8 := Lib.hid hof8
            have D8 := Lib.hid (D7.out.then hof8.kept)
            clear hof8 hys RE
            obtain ⟨t2v, t2m, t2n, t2D, ht2, _, _⟩ := HOF8.out.tab
            have HT2 := Lib.hid ht2
            clear ht2
            have HQ := Lib.hid (fun (W : World) (k : Kept (fun _ => False) w8 W) => tequal_any W g2 g1 xs1 xs1 t2v t1v t2m t1m t2n t1n t2D t1D (HT2.out.stay k) (HT1.out.stay (D8.out.then k)))
            have HQ2 := Lib.hid (fun (W : World) (k : Kept (fun _ => False) w8 W) => tequal_any W g1 g2 xs1 xs1 t1v t2v t1m t2m t1n t2n t1D t2D (HT1.out.stay (D8.out.then k)) (HT2.out.stay k))
            have HNM := Lib.hid (fun (W : World) (k : Kept (fun _ => False) w8 W) => tnames_any W g2 xs1 t2v t2m t2n t2D (HT2.out.stay k))
            rw [show decide (xs1 = xs1) = true by simp] at HQ HQ2
            go_wp2_with fail
            refine (HQ.out w8 (Kept.refl _ _)).mono ?_
            rintro e w9 ⟨rfl, k9⟩
            have E9 := Lib.hid k9
            clear k9
            go_wp2_with fail
            refine (HQ2.out w9 E9.out).mono ?_
            rintro e w10 ⟨rfl, k10⟩
            have E10 := Lib.hid (E9.out.then k10)
            clear k10
            go_wp2_with fail
            refine (HNM.out w10 E10.out).mono ?_
            rintro e w11 ⟨v11, rfl, hown11, k11⟩
            have E11 := Lib.hid (E10.out.then k11)
            have HO11 := Lib.hid (strs_own hown11)
            clear hown11 k11
            go_wp2_with fail
            refine (rsame8_any v11 _ xs1 xs1 w11 HO11.out (HX3.out.kept (D8.out.then E11.out) (fun _ _ h => h))).mono ?_
            rw [show decide (xs1 = xs1) = true by simp]
            rintro e w12 ⟨rfl, k12⟩
            have E12 := Lib.hid (E11.out.then k12)
            clear k12
            go_wp2_with fail
            go_ret
            exact ⟨rfl, K3.out.then (D8.out.then E12.out)⟩
end Go.Proofs.Ytmhfbcapmlofbaa
