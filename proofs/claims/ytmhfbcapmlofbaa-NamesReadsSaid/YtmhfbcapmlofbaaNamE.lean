/-
  arbaclaw08.NamesEquals returns true: tables are equal exactly if their names are.
-/
import Derived.Test.YtmhfbcapmlofbaaNamEm
import Derived.Deep.RegionLaw
import Derived.Deep.DrawnRows
namespace Go.Proofs.Ytmhfbcapmlofbaa
open Go.RowKit
attribute [local go_sem ↓] Go.wp_at_zero Go.wp_at_succ
set_option linter.unusedSimpArgs false

/-- What the loops keep that gather names: the list so far, all of it new, and it can be added. -/
structure EqInv (w wr : World) (v : Value) (xs : List ByteArray) : Prop where
  row : wr.ownsRow w.heap.size 9 1 v xs.length (xs.map Value.string)
  kept : Kept (fun _ => False) w wr
  good : Good xs
theorem EqInv.start (w : World) : EqInv w w (.slice none 0 0) [] := ⟨World.ownsRow_nil _ _ _ _, Kept.refl _ _, Good.nil⟩
theorem EqInv.on {w a b : World} {v : Value} {xs : List ByteArray} (h : EqInv w a v xs) (hk : Kept (fun _ => False) a b) : EqInv w b v xs := ⟨hk.owns h.row (fun _ _ h => h), h.kept.then hk, h.good⟩

set_option maxRecDepth 100000 in
set_option maxHeartbeats 6400000 in
theorem equals_any (a b : Option Addr) (la ca lb cb : Nat) (na nb : List Nat) (w : World) (ha : InBytes w (.slice a la ca) na) (hb : InBytes w (.slice b lb cb) nb) :
    Calls Try.prog 6 #[.slice a la ca, .slice b lb cb] w fun e w' => e = .returned (.bool true) ∧ Kept (fun _ => False) w w' := by
  obtain ⟨i0, hi, hz0, hz1, hz2⟩ := info_parts info_str
  have HA := Lib.hid ha; have HB := Lib.hid hb
  clear ha hb
  go_enter Try.func6, Try.ntmps6
  go_wp2_with fail
  refine (awake8_any w).mono ?_
  rintro e w0 ⟨rfl, k0⟩
  have K0 := Lib.hid k0
  clear k0
  go_wp2_with fail
  have hin1 := HA.out.reads.kept K0.out (fun _ _ h => h)
  refine (words8_any a la ca na w0 ⟨hin1, HA.out.byte⟩).mono ?_
  rintro e w1 ⟨yv, rfl, hwd⟩
  obtain ⟨ya1, yc1, hyf, _, hym⟩ := (strs_own hwd.row).form
  have hyl1 : (textsOf (na.take 24)).length ≤ 24 := by rw [textsOf_length, List.length_take]; omega
  have HY1 := Lib.hid (strs_own hwd.row)
  have K1 := Lib.hid (K0.out.then hwd.kept)
  subst hyf
  clear hin1 hwd hym
  generalize textsOf (na.take 24) = ys1 at HY1 hyl1 ⊢
  obtain ⟨Y1, hY⟩ : ∃ Y, Y = ys1.length := ⟨_, rfl⟩
  rw [← hY] at HY1 hyl1 ⊢
  have HYL1 := Lib.hid hY
  clear hY
  go_wp2_with fail
  go_loopw [5, 20] (fun xv iv wr => ∃ k : Nat, k ≤ Y1 ∧ iv = .int .i64 k ∧ ∃ N : Nat, ∃ xa xc, N ≤ k ∧ xv = .slice xa N xc ∧ Hid (∃ xs, EqInv w1 wr (.slice xa N xc) xs ∧ xs.length = N)) (fun _ iv _ => Y1 - (intOf iv).toNat)
  case atStart => exact ⟨0, by omega, rfl, 0, none, 0, by omega, rfl, ⟨[], EqInv.start w1, rfl⟩⟩
  case round =>
    obtain ⟨k1, hk, rfl, N1, xa1, xc1, hNk, rfl, hinv⟩ := hrel
    obtain ⟨xs1, hin, hxl⟩ := hinv.out
    have HIN := Lib.hid hin; have HXL := Lib.hid hxl
    clear hin hxl hinv
    by_cases hlt : k1 < Y1
    · have l1 : (k1 : Int) < (Y1 : Int) := by omega
      have l0 : (0 : Int) ≤ (k1 : Int) := by omega
      obtain ⟨gy, oy, rfl, _, hcell⟩ := (HY1.out.kept HIN.out.kept (fun _ _ h => h)).at (k := k1) (by have := HYL1.out; omega)
      generalize ys1.getD k1 ⟨#[]⟩ = s at hcell
      have hchk := rcheck_any _ xs1 s 100 wr (strs_own HIN.out.row) (by have := HXL.out; omega)
      by_cases hr : refS xs1 s 100 = 0
      · rw [hr] at hchk
        have HCK := Lib.hid hchk; have HR := Lib.hid hr
        have hm1 : N1 + 1 ≤ maxLen := by unfold maxLen; omega
        have hm2 : (N1 + 1) * 16 ≤ 140737488355328 := by omega
        have hrow := HIN.out.row
        rw [HXL.out] at hrow
        have HRO := Lib.hid hrow
        clear hchk hr hrow
        go_wp2_with fail
        refine HCK.out.mono ?_
        rintro e w3 ⟨rfl, k3⟩
        have HO3 := Lib.hid (k3.owns HRO.out (fun _ _ h => h))
        have HK3 := Lib.hid (HIN.out.kept.then k3)
        have hsz3 := HK3.out.size
        clear k3
        go_wp2_with (at_builtin; refine wpList_append_lies _ rfl _ _ _ rfl w1.heap.size 9 i0 _ 1 16 Try.underlying23 hi hz0 hz1 hz2 rfl (by omega) (.slice xa1 N1 xc1) N1 _ rfl (HO3.out.alloc _) ⟨w3.heap.size, 0, none⟩ 1 1 [.string s] rfl rfl (World.news_of_block (cs := #[.string s]) (t := 9) (fr := (0, 0)) (heap_alloc_new w3 _)) (by simp [Value.oneCell']) (by omega) hm1 hm2 (by simp; omega) (w3.heap.size + 1) (by simp) ?_)
        intro gg cap w5 hown5 hgrow hat hgl
        have HI5 : Hid (∃ xs, EqInv w1 w5 (.slice (some ⟨gg, 0, none⟩) (N1 + 1) cap) xs ∧ xs.length = N1 + 1) := by
          have kp : Kept (blk (.slice xa1 N1 xc1)) w3 w5 := (Kept.alloc (fun _ => False) w3 _).trans (Kept.ofGrown (S := blk (.slice xa1 N1 xc1)) hgrow fun k e => e) (fun _ _ h => h.elim) (fun _ _ h => h)
          have hxl := HXL.out
          refine ⟨xs1 ++ [s], ⟨?_, HK3.out.trans kp (fun _ _ h => h) (fun i hi e => by have := (HO3.out.lt i e).1; omega), HIN.out.good.snoc HR.out⟩, by rw [List.length_append, hxl]; rfl⟩
          rw [List.length_append, hxl, List.map_append]
          exact hown5
        clear hown5 hgrow hat hgl HIN HO3 HK3 HRO HCK HR
        go_wp2
        go_roundw
        case rel => first | exact ⟨k1 + 1, by omega, by go_num, N1 + 1, _, _, by omega, rfl, HI5⟩ | ((repeat apply Exists.intro); exact ⟨⟨k1 + 1, by omega, by go_num, N1 + 1, _, _, by omega, rfl, HI5⟩, rfl⟩)
        case measure => simp [intOf]; omega
      · generalize refS xs1 s 100 = R at hchk hr
        have HCK := Lib.hid hchk
        clear hchk
        go_wp2_with fail
        refine HCK.out.mono ?_
        rintro e w3 ⟨rfl, k3⟩
        have HI3 : Hid (∃ xs, EqInv w1 w3 (.slice xa1 N1 xc1) xs ∧ xs.length = N1) := ⟨xs1, HIN.out.on k3, HXL.out⟩
        clear k3 HIN HCK
        go_wp2_with fail
        go_roundw
        case rel => first | exact ⟨k1 + 1, by omega, by go_num, N1, _, _, by omega, rfl, HI3⟩ | ((repeat apply Exists.intro); exact ⟨⟨k1 + 1, by omega, by go_num, N1, _, _, by omega, rfl, HI3⟩, rfl⟩)
        case measure => simp [intOf]; omega
    · have l1 : ¬ (k1 : Int) < (Y1 : Int) := by omega
      have hN1 : N1 ≤ 24 := by omega
      have HG1 := Lib.hid HIN.out.good
      have HX1 := Lib.hid (strs_own HIN.out.row)
      have K2 := Lib.hid (K1.out.then HIN.out.kept)
      have HL1 : Hid (xs1.length ≤ 24) := by have := HXL.out; show _ ≤ _; omega
      have HLX := HXL
      clear HIN hlt HXL
      go_wp2_with fail
      clear l1
      obtain ⟨wa, hwa⟩ : ∃ wa : World, wa = wr := ⟨_, rfl⟩
      rw [← hwa] at K2 HX1 ⊢
      clear hwa
      have hin2 := HB.out.reads.kept K2.out (fun _ _ h => h)
      refine (words8_any b lb cb nb wa ⟨hin2, HB.out.byte⟩).mono ?_
      rintro e w2 ⟨yv, rfl, hwd⟩
      obtain ⟨ya2, yc2, hyf, _, hym⟩ := (strs_own hwd.row).form
      have hyl2 : (textsOf (nb.take 24)).length ≤ 24 := by rw [textsOf_length, List.length_take]; omega
      have HY2 := Lib.hid (strs_own hwd.row)
      have K3 := Lib.hid (K2.out.then hwd.kept)
      have HX2 := Lib.hid (HX1.out.kept hwd.kept (fun _ _ h => h))
      clear HX1
      subst hyf
      clear hin2 hwd hym
      generalize textsOf (nb.take 24) = ys2 at HY2 hyl2 ⊢
      obtain ⟨Y2, hY⟩ : ∃ Y, Y = ys2.length := ⟨_, rfl⟩
      rw [← hY] at HY2 hyl2 ⊢
      have HYL2 := Lib.hid hY
      clear hY
      go_wp2_with fail
      go_loopw [6, 36] (fun xv iv wr => ∃ k : Nat, k ≤ Y2 ∧ iv = .int .i64 k ∧ ∃ N : Nat, ∃ xa xc, N ≤ k ∧ xv = .slice xa N xc ∧ Hid (∃ xs, EqInv w2 wr (.slice xa N xc) xs ∧ xs.length = N)) (fun _ iv _ => Y2 - (intOf iv).toNat)
      case atStart => exact ⟨0, by omega, rfl, 0, none, 0, by omega, rfl, ⟨[], EqInv.start w2, rfl⟩⟩
      case round =>
        obtain ⟨k2, hk, rfl, N2, xa2, xc2, hNk, rfl, hinv⟩ := hrel
        obtain ⟨xs2, hin, hxl⟩ := hinv.out
        have HIN := Lib.hid hin; have HXL := Lib.hid hxl
        clear hin hxl hinv
        by_cases hlt : k2 < Y2
        · have l1 : (k2 : Int) < (Y2 : Int) := by omega
          have l0 : (0 : Int) ≤ (k2 : Int) := by omega
          obtain ⟨gy, oy, rfl, _, hcell⟩ := (HY2.out.kept HIN.out.kept (fun _ _ h => h)).at (k := k2) (by have := HYL2.out; omega)
          generalize ys2.getD k2 ⟨#[]⟩ = s at hcell
          have hchk := rcheck_any _ xs2 s 100 wr (strs_own HIN.out.row) (by have := HXL.out; omega)
          by_cases hr : refS xs2 s 100 = 0
          · rw [hr] at hchk
            have HCK := Lib.hid hchk; have HR := Lib.hid hr
            have hm1 : N2 + 1 ≤ maxLen := by unfold maxLen; omega
            have hm2 : (N2 + 1) * 16 ≤ 140737488355328 := by omega
            have hrow := HIN.out.row
            rw [HXL.out] at hrow
            have HRO := Lib.hid hrow
            clear hchk hr hrow
            go_wp2_with fail
            refine HCK.out.mono ?_
            rintro e w3 ⟨rfl, k3⟩
            have HO3 := Lib.hid (k3.owns HRO.out (fun _ _ h => h))
            have HK3 := Lib.hid (HIN.out.kept.then k3)
            have hsz3 := HK3.out.size
            clear k3
            go_wp2_with (at_builtin; refine wpList_append_lies _ rfl _ _ _ rfl w2.heap.size 9 i0 _ 1 16 Try.underlying23 hi hz0 hz1 hz2 rfl (by omega) (.slice xa2 N2 xc2) N2 _ rfl (HO3.out.alloc _) ⟨w3.heap.size, 0, none⟩ 1 1 [.string s] rfl rfl (World.news_of_block (cs := #[.string s]) (t := 9) (fr := (0, 0)) (heap_alloc_new w3 _)) (by simp [Value.oneCell']) (by omega) hm1 hm2 (by simp; omega) (w3.heap.size + 1) (by simp) ?_)
            intro gg cap w5 hown5 hgrow hat hgl
            have HI5 : Hid (∃ xs, EqInv w2 w5 (.slice (some ⟨gg, 0, none⟩) (N2 + 1) cap) xs ∧ xs.length = N2 + 1) := by
              have kp : Kept (blk (.slice xa2 N2 xc2)) w3 w5 := (Kept.alloc (fun _ => False) w3 _).trans (Kept.ofGrown (S := blk (.slice xa2 N2 xc2)) hgrow fun k e => e) (fun _ _ h => h.elim) (fun _ _ h => h)
              have hxl := HXL.out
              refine ⟨xs2 ++ [s], ⟨?_, HK3.out.trans kp (fun _ _ h => h) (fun i hi e => by have := (HO3.out.lt i e).1; omega), HIN.out.good.snoc HR.out⟩, by rw [List.length_append, hxl]; rfl⟩
              rw [List.length_append, hxl, List.map_append]
              exact hown5
            clear hown5 hgrow hat hgl HIN HO3 HK3 HRO HCK HR
            go_wp2
            go_roundw
            case rel => first | exact ⟨k2 + 1, by omega, by go_num, N2 + 1, _, _, by omega, rfl, HI5⟩ | ((repeat apply Exists.intro); exact ⟨⟨k2 + 1, by omega, by go_num, N2 + 1, _, _, by omega, rfl, HI5⟩, rfl⟩)
            case measure => simp [intOf]; omega
          · generalize refS xs2 s 100 = R at hchk hr
            have HCK := Lib.hid hchk
            clear hchk
            go_wp2_with fail
            refine HCK.out.mono ?_
            rintro e w3 ⟨rfl, k3⟩
            have HI3 : Hid (∃ xs, EqInv w2 w3 (.slice xa2 N2 xc2) xs ∧ xs.length = N2) := ⟨xs2, HIN.out.on k3, HXL.out⟩
            clear k3 HIN HCK
            go_wp2_with fail
            go_roundw
            case rel => first | exact ⟨k2 + 1, by omega, by go_num, N2, _, _, by omega, rfl, HI3⟩ | ((repeat apply Exists.intro); exact ⟨⟨k2 + 1, by omega, by go_num, N2, _, _, by omega, rfl, HI3⟩, rfl⟩)
            case measure => simp [intOf]; omega
        · have l1 : ¬ (k2 : Int) < (Y2 : Int) := by omega
          have hN2 : N2 ≤ 24 := by omega
          have HG2 := Lib.hid HIN.out.good
          have HZ3 := Lib.hid (strs_own HIN.out.row)
          have HX3 := Lib.hid (HX2.out.kept HIN.out.kept (fun _ _ h => h))
          have K4 := Lib.hid (K3.out.then HIN.out.kept)
          have HL2 : Hid (xs2.length ≤ 24) := by have := HXL.out; show _ ≤ _; omega
          clear HIN hlt
          go_wp2_with fail
          clear l1
          refine (tof_any _ xs1 100 wr HX3.out (fun x hx => by have := HG1.out.short x hx; omega)).mono ?_
          rintro e w4 (⟨hne, _⟩ | ⟨_, g1, rfl, hof⟩)
          · exact absurd (by rw [HG1.out.of]) hne
          have HOF0 := Lib.hid hof
          have HZ4 := Lib.hid (HZ3.out.kept hof.kept (fun _ _ h => h))
          have HX4 := Lib.hid (HX3.out.kept hof.kept (fun _ _ h => h))
          have K4b := Lib.hid (K4.out.then hof.kept)
          clear hof HX3 HZ3
          go_wp2_with fail
          refine (tof_any _ xs2 100 w4 HZ4.out (fun x hx => by have := HG2.out.short x hx; omega)).mono ?_
          rintro e w5 (⟨hne, _⟩ | ⟨_, g2, rfl, hof⟩)
          · exact absurd (by rw [HG2.out.of]) hne
          have HOF2 := Lib.hid hof
          have HOF1 := Lib.hid (HOF0.out.on hof.kept)
          have HZ5 := Lib.hid (HZ4.out.kept hof.kept (fun _ _ h => h))
          have HX5 := Lib.hid (HX4.out.kept hof.kept (fun _ _ h => h))
          have K5 := Lib.hid (K4b.out.then hof.kept)
          clear hof HOF0 HX4 HZ4
          obtain ⟨t1v, t1m, t1n, t1D, ht1, _, _⟩ := HOF1.out.tab
          obtain ⟨t2v, t2m, t2n, t2D, ht2, _, _⟩ := HOF2.out.tab
          have HT1 := Lib.hid ht1; have HT2 := Lib.hid ht2
          clear ht1 ht2 HOF1 HOF2
          have HEQ := Lib.hid (fun (W : World) (k : Kept (fun _ => False) w5 W) => tequal_any W g1 g2 xs1 xs2 t1v t2v t1m t2m t1n t2n t1D t2D (HT1.out.stay k) (HT2.out.stay k))
          have HSM := Lib.hid (fun (W : World) (k : Kept (fun _ => False) w5 W) => rsame8_any _ _ xs1 xs2 W (HX5.out.kept k (fun _ _ h => h)) (HZ5.out.kept k (fun _ _ h => h)))
          have HB1 := Lib.hid (fun (W : World) (k : Kept (fun _ => False) w5 W) => tbytes_any W g1 xs1 t1v t1m t1n t1D (HT1.out.stay k))
          have HB2 := Lib.hid (fun (W : World) (k : Kept (fun _ => False) w5 W) => tbytes_any W g2 xs2 t2v t2m t2n t2D (HT2.out.stay k))
          have hstr := str8_eq HG1.out.short HG2.out.short (by have := HL1.out; omega) (by have := HL2.out; omega)
          have hR1 : Hid (∀ v W, Reads W v (enc xs1.length ++ encL xs1) → (convert 28 9 v).run Try.prog W = .ok (.string (str8 xs1)) W) := fun v W h => reads_str h
          have hR2 : Hid (∀ v W, Reads W v (enc xs2.length ++ encL xs2) → (convert 28 9 v).run Try.prog W = .ok (.string (str8 xs2)) W) := fun v W h => reads_str h
          have D5 := Lib.hid ((Kept.refl (fun _ => False) w5).drew)
          clear HT1 HT2 HX5 HZ5 HG1 HG2 HL1 HL2
          generalize str8 xs1 = S1 at hstr hR1
          generalize str8 xs2 = S2 at hstr hR2
          generalize enc xs1.length ++ encL xs1 = E1 at hR1 HB1
          generalize enc xs2.length ++ encL xs2 = E2 at hR2 HB2
          generalize decide (xs1 = xs2) = R at hstr HEQ HSM
          have hRR : (R == R) = true := by simp
          go_wp2_with fail
          refine wp_region_any (by kernel_rfl) ?_
          try (change wpAny _ _ _ _ _ _ _ (World.drew _))
          refine wpAny_take (i := 0) (v := .int .i64 0) rfl (by kernel_rfl) (by kernel_rfl) (by kernel_rfl) (fun _ _ _ h => h) (Or.inl ⟨by simp [Region.wanted, yielded], fun W => by go_simp⟩) ?_
          try (simp only [Act.put, List.getElem_toArray, List.getElem_cons_succ, List.getElem_cons_zero, List.setIfInBounds_toArray, List.set_cons_zero, List.set_cons_succ])
          refine wpAny_take (i := 1) (v := .bool true) rfl (by kernel_rfl) (by kernel_rfl) (by kernel_rfl) (fun _ _ _ h => h) (Or.inl ⟨by simp [Region.wanted, yielded], fun W => by go_simp⟩) ?_
          try (simp only [Act.put, List.getElem_toArray, List.getElem_cons_succ, List.getElem_cons_zero, List.setIfInBounds_toArray, List.set_cons_zero, List.set_cons_succ])
          refine wpAny_take (i := 2) (v := .bool true) rfl (by kernel_rfl) (by kernel_rfl) (by kernel_rfl) (fun _ _ _ h => h) (Or.inl ⟨by simp [Region.wanted, yielded], fun W => by go_simp⟩) ?_
          try (simp only [Act.put, List.getElem_toArray, List.getElem_cons_succ, List.getElem_cons_zero, List.setIfInBounds_toArray, List.set_cons_zero, List.set_cons_succ])
          refine wpAny_take (i := 3) (v := .int .i64 0) rfl (by kernel_rfl) (by kernel_rfl) (by kernel_rfl) (fun _ _ _ h => h) (Or.inl ⟨by simp [Region.wanted, yielded], fun W => by go_simp⟩) ?_
          try (simp only [Act.put, List.getElem_toArray, List.getElem_cons_succ, List.getElem_cons_zero, List.setIfInBounds_toArray, List.set_cons_zero, List.set_cons_succ])
          refine wpAny_take (i := 4) (v := .bool true) rfl (by kernel_rfl) (by kernel_rfl) (by kernel_rfl) (fun _ _ _ h => h) (Or.inl ⟨by simp [Region.wanted, yielded], fun W => by go_simp⟩) ?_
          try (simp only [Act.put, List.getElem_toArray, List.getElem_cons_succ, List.getElem_cons_zero, List.setIfInBounds_toArray, List.set_cons_zero, List.set_cons_succ])
          refine wpAny_take (i := 5) (v := .bool true) rfl (by kernel_rfl) (by kernel_rfl) (by kernel_rfl) (fun _ _ _ h => h) (Or.inl ⟨by simp [Region.wanted, yielded], fun W => by go_simp⟩) ?_
          try (simp only [Act.put, List.getElem_toArray, List.getElem_cons_succ, List.getElem_cons_zero, List.setIfInBounds_toArray, List.set_cons_zero, List.set_cons_succ])
          refine wpAny_take (i := 6) (v := .bool true) rfl (by kernel_rfl) (by kernel_rfl) (by kernel_rfl) (fun _ _ _ h => h) (Or.inl ⟨by simp [Region.wanted, yielded], fun W => by go_simp⟩) ?_
          try (simp only [Act.put, List.getElem_toArray, List.getElem_cons_succ, List.getElem_cons_zero, List.setIfInBounds_toArray, List.set_cons_zero, List.set_cons_succ])
          refine wpAny_take (i := 7) (v := .pointer (some ⟨g1, 0, none⟩)) rfl (by kernel_rfl) (by kernel_rfl) (by kernel_rfl) (fun _ _ _ h => h) (Or.inl ⟨by simp [Region.wanted, yielded], fun W => by go_simp⟩) ?_
          try (simp only [Act.put, List.getElem_toArray, List.getElem_cons_succ, List.getElem_cons_zero, List.setIfInBounds_toArray, List.set_cons_zero, List.set_cons_succ])
          refine wpAny_take (i := 8) (v := .pointer (some ⟨g2, 0, none⟩)) rfl (by kernel_rfl) (by kernel_rfl) (by kernel_rfl) (fun _ _ _ h => h) (Or.inl ⟨by simp [Region.wanted, yielded], fun W => by go_simp⟩) ?_
          try (simp only [Act.put, List.getElem_toArray, List.getElem_cons_succ, List.getElem_cons_zero, List.setIfInBounds_toArray, List.set_cons_zero, List.set_cons_succ])
          refine wpAny_take (i := 10) (v := .slice xa1 N1 xc1) rfl (by kernel_rfl) (by kernel_rfl) (by kernel_rfl) (fun _ _ _ h => h) (Or.inl ⟨by simp [Region.wanted, yielded], fun W => by go_simp⟩) ?_
          try (simp only [Act.put, List.getElem_toArray, List.getElem_cons_succ, List.getElem_cons_zero, List.setIfInBounds_toArray, List.set_cons_zero, List.set_cons_succ])
          refine wpAny_take (i := 11) (v := .slice xa2 N2 xc2) rfl (by kernel_rfl) (by kernel_rfl) (by kernel_rfl) (fun _ _ _ h => h) (Or.inl ⟨by simp [Region.wanted, yielded], fun W => by go_simp⟩) ?_
          try (simp only [Act.put, List.getElem_toArray, List.getElem_cons_succ, List.getElem_cons_zero, List.setIfInBounds_toArray, List.set_cons_zero, List.set_cons_succ])
          refine wpAny_ready (rs := [9]) (by kernel_rfl) (by simp) ?_
          refine AllReady.cons (o := _) rfl (fun K hK => ?_) AllReady.nil
          rw [if_pos (by simp [Region.wanted, yielded])]
          go_simp
          go_at_call 18
          refine (HEQ.out w5.drew D5.out).mono ?_
          rintro e w6 ⟨rfl, k6⟩; have D6 := Lib.hid (D5.out.then k6); clear k6
          go_wp2_with fail
          try (refine hK _ _ ?_)
          try (clear hK K)
          try (simp only [Act.put, List.getElem_toArray, List.getElem_cons_succ, List.getElem_cons_zero, List.setIfInBounds_toArray, List.set_cons_zero, List.set_cons_succ])
          refine wpAny_ready (rs := [12]) (by kernel_rfl) (by simp) ?_
          refine AllReady.cons (o := _) rfl (fun K hK => ?_) AllReady.nil
          rw [if_pos (by simp [Region.wanted, yielded])]
          go_simp
          go_at_call 9
          refine (HSM.out w6 D6.out).mono ?_
          rintro e w7 ⟨rfl, k7⟩; have D7 := Lib.hid (D6.out.then k7); clear k7
          go_wp2_with fail
          try (refine hK _ _ ?_)
          try (clear hK K)
          try (simp only [Act.put, List.getElem_toArray, List.getElem_cons_succ, List.getElem_cons_zero, List.setIfInBounds_toArray, List.set_cons_zero, List.set_cons_succ])
          refine wpAny_take (i := 13) (v := .bool true) rfl (by kernel_rfl) (by kernel_rfl) (by kernel_rfl) (fun _ _ _ h => h) (Or.inl ⟨by simp [Region.wanted, yielded], fun W => by go_simp⟩) ?_
          try (simp only [Act.put, List.getElem_toArray, List.getElem_cons_succ, List.getElem_cons_zero, List.setIfInBounds_toArray, List.set_cons_zero, List.set_cons_succ])
          refine wpAny_take (i := 14) (v := .bool true) rfl (by kernel_rfl) (by kernel_rfl) (by kernel_rfl) (fun _ _ _ h => h) (Or.inl ⟨by simp [Region.wanted, yielded], fun W => by go_simp⟩) ?_
          try (simp only [Act.put, List.getElem_toArray, List.getElem_cons_succ, List.getElem_cons_zero, List.setIfInBounds_toArray, List.set_cons_zero, List.set_cons_succ])
          refine wpAny_take (i := 15) (v := .bool true) rfl (by kernel_rfl) (by kernel_rfl) (by kernel_rfl) (fun _ _ _ h => h) (Or.inl ⟨by simp [Region.wanted, yielded], fun W => by go_simp⟩) ?_
          try (simp only [Act.put, List.getElem_toArray, List.getElem_cons_succ, List.getElem_cons_zero, List.setIfInBounds_toArray, List.set_cons_zero, List.set_cons_succ])
          refine wpAny_take (i := 16) (v := .pointer (some ⟨g1, 0, none⟩)) rfl (by kernel_rfl) (by kernel_rfl) (by kernel_rfl) (fun _ _ _ h => h) (Or.inl ⟨by simp [Region.wanted, yielded], fun W => by go_simp⟩) ?_
          try (simp only [Act.put, List.getElem_toArray, List.getElem_cons_succ, List.getElem_cons_zero, List.setIfInBounds_toArray, List.set_cons_zero, List.set_cons_succ])
          refine wpAny_take (i := 17) (v := .pointer (some ⟨g2, 0, none⟩)) rfl (by kernel_rfl) (by kernel_rfl) (by kernel_rfl) (fun _ _ _ h => h) (Or.inl ⟨by simp [Region.wanted, yielded], fun W => by go_simp⟩) ?_
          try (simp only [Act.put, List.getElem_toArray, List.getElem_cons_succ, List.getElem_cons_zero, List.setIfInBounds_toArray, List.set_cons_zero, List.set_cons_succ])
          refine wpAny_take (i := 19) (v := .pointer (some ⟨g1, 0, none⟩)) rfl (by kernel_rfl) (by kernel_rfl) (by kernel_rfl) (fun _ _ _ h => h) (Or.inl ⟨by simp [Region.wanted, yielded], fun W => by go_simp⟩) ?_
          try (simp only [Act.put, List.getElem_toArray, List.getElem_cons_succ, List.getElem_cons_zero, List.setIfInBounds_toArray, List.set_cons_zero, List.set_cons_succ])
          refine wpAny_take (i := 22) (v := .pointer (some ⟨g2, 0, none⟩)) rfl (by kernel_rfl) (by kernel_rfl) (by kernel_rfl) (fun _ _ _ h => h) (Or.inl ⟨by simp [Region.wanted, yielded], fun W => by go_simp⟩) ?_
          try (simp only [Act.put, List.getElem_toArray, List.getElem_cons_succ, List.getElem_cons_zero, List.setIfInBounds_toArray, List.set_cons_zero, List.set_cons_succ])
          refine wpAny_ready (rs := [18]) (by kernel_rfl) (by simp) ?_
          refine AllReady.cons (o := _) rfl (fun K hK => ?_) AllReady.nil
          rw [if_pos (by simp [Region.wanted, yielded])]
          go_simp
          go_at_call 18
          refine (HEQ.out w7 D7.out).mono ?_
          rintro e w8 ⟨rfl, k8⟩; have D8 := Lib.hid (D7.out.then k8); clear k8
          go_wp2_with fail
          try (refine hK _ _ ?_)
          try (clear hK K)
          try (simp only [Act.put, List.getElem_toArray, List.getElem_cons_succ, List.getElem_cons_zero, List.setIfInBounds_toArray, List.set_cons_zero, List.set_cons_succ])
          refine wpAny_ready (rs := [20]) (by kernel_rfl) (by simp) ?_
          refine AllReady.cons (o := _) rfl (fun K hK => ?_) AllReady.nil
          rw [if_pos (by simp [Region.wanted, yielded])]
          go_simp
          go_at_call 15
          refine (HB1.out w8 D8.out).mono ?_
          rintro e w9 ⟨v9, rfl, f9, k9⟩; have D9 := Lib.hid (D8.out.then k9); have F9 := Lib.hid f9; have c9 := hR1.out v9 w9 f9.reads; clear f9 k9
          go_wp2_with fail
          try (refine hK _ _ ?_)
          try (clear hK K)
          try (simp only [Act.put, List.getElem_toArray, List.getElem_cons_succ, List.getElem_cons_zero, List.setIfInBounds_toArray, List.set_cons_zero, List.set_cons_succ])
          refine wpAny_ready (rs := [21, 23]) (by kernel_rfl) (by simp) ?_
          refine AllReady.cons (o := _) rfl (fun K hK => ?_) (AllReady.cons (o := _) rfl (fun K hK => ?_) AllReady.nil)
          · rw [if_pos (by simp [Region.wanted, yielded])]
            go_simp
            refine hK _ _ ?_
            clear hK K
            try (simp only [Act.put, List.getElem_toArray, List.getElem_cons_succ, List.getElem_cons_zero, List.setIfInBounds_toArray, List.set_cons_zero, List.set_cons_succ])
            refine wpAny_ready (rs := [23]) (by kernel_rfl) (by simp) ?_
            refine AllReady.cons (o := _) rfl (fun K hK => ?_) AllReady.nil
            rw [if_pos (by simp [Region.wanted, yielded])]
            go_simp
            go_at_call 15
            refine (HB2.out w9 D9.out).mono ?_
            rintro e w10 ⟨v10, rfl, f10, k10⟩
            have D10 := Lib.hid (D9.out.then k10)
            have c9b := hR1.out v9 w10 (F9.out.reads.kept k10 (fun _ _ h => h))
            have c10 := hR2.out v10 w10 f10.reads
            clear f10 k10
            go_wp2_with fail
            try (refine hK _ _ ?_)
            try (clear hK K)
            try (simp only [Act.put, List.getElem_toArray, List.getElem_cons_succ, List.getElem_cons_zero, List.setIfInBounds_toArray, List.set_cons_zero, List.set_cons_succ])
            refine wpAny_ready (rs := [24]) (by kernel_rfl) (by simp) ?_
            refine AllReady.cons (o := _) rfl (fun K hK => ?_) AllReady.nil
            rw [if_pos (by simp [Region.wanted, yielded])]
            go_simp
            refine hK _ _ ?_
            clear hK K
            try (simp only [Act.put, List.getElem_toArray, List.getElem_cons_succ, List.getElem_cons_zero, List.setIfInBounds_toArray, List.set_cons_zero, List.set_cons_succ])
            refine wpAny_take (i := 25) (v := .bool R) rfl (by kernel_rfl) (by kernel_rfl) (by kernel_rfl) (fun _ _ _ h => h) (Or.inl ⟨by simp [Region.wanted, yielded], fun W => by go_simp⟩) ?_
            try (simp only [Act.put, List.getElem_toArray, List.getElem_cons_succ, List.getElem_cons_zero, List.setIfInBounds_toArray, List.set_cons_zero, List.set_cons_succ])
            refine wpAny_take (i := 26) (v := .bool true) rfl (by kernel_rfl) (by kernel_rfl) (by kernel_rfl) (fun _ _ _ h => h) (Or.inl ⟨by simp [Region.wanted, yielded], fun W => by go_simp⟩) ?_
            try (simp only [Act.put, List.getElem_toArray, List.getElem_cons_succ, List.getElem_cons_zero, List.setIfInBounds_toArray, List.set_cons_zero, List.set_cons_succ])
            refine wpAny_take (i := 27) (v := .bool true) rfl (by kernel_rfl) (by kernel_rfl) (by kernel_rfl) (fun _ _ _ h => h) (Or.inl ⟨by simp [Region.wanted, yielded], fun W => by go_simp⟩) ?_
            try (simp only [Act.put, List.getElem_toArray, List.getElem_cons_succ, List.getElem_cons_zero, List.setIfInBounds_toArray, List.set_cons_zero, List.set_cons_succ])
            refine wpAny_take (i := 28) (v := .bool true) rfl (by kernel_rfl) (by kernel_rfl) (by kernel_rfl) (fun _ _ _ h => h) (Or.inl ⟨by simp [Region.wanted, yielded], fun W => by go_simp⟩) ?_
            try (simp only [Act.put, List.getElem_toArray, List.getElem_cons_succ, List.getElem_cons_zero, List.setIfInBounds_toArray, List.set_cons_zero, List.set_cons_succ])
            refine wpAny_done (by kernel_rfl) ?_ _
            go_wp2_with fail
            go_ret
            exact ⟨rfl, K5.out.then D10.out⟩
          · rw [if_pos (by simp [Region.wanted, yielded])]
            go_simp
            go_at_call 15
            refine (HB2.out w9 D9.out).mono ?_
            rintro e w10 ⟨v10, rfl, f10, k10⟩
            have D10 := Lib.hid (D9.out.then k10)
            have c9b := hR1.out v9 w10 (F9.out.reads.kept k10 (fun _ _ h => h))
            have c10 := hR2.out v10 w10 f10.reads
            clear f10 k10
            go_wp2_with fail
            try (refine hK _ _ ?_)
            try (clear hK K)
            try (simp only [Act.put, List.getElem_toArray, List.getElem_cons_succ, List.getElem_cons_zero, List.setIfInBounds_toArray, List.set_cons_zero, List.set_cons_succ])
            refine wpAny_ready (rs := [21, 24]) (by kernel_rfl) (by simp) ?_
            refine AllReady.cons (o := _) rfl (fun K hK => ?_) (AllReady.cons (o := _) rfl (fun K hK => ?_) AllReady.nil)
            · rw [if_pos (by simp [Region.wanted, yielded])]
              go_simp
              refine hK _ _ ?_
              clear hK K
              try (simp only [Act.put, List.getElem_toArray, List.getElem_cons_succ, List.getElem_cons_zero, List.setIfInBounds_toArray, List.set_cons_zero, List.set_cons_succ])
              refine wpAny_ready (rs := [24]) (by kernel_rfl) (by simp) ?_
              refine AllReady.cons (o := _) rfl (fun K hK => ?_) AllReady.nil
              rw [if_pos (by simp [Region.wanted, yielded])]
              go_simp
              refine hK _ _ ?_
              clear hK K
              try (simp only [Act.put, List.getElem_toArray, List.getElem_cons_succ, List.getElem_cons_zero, List.setIfInBounds_toArray, List.set_cons_zero, List.set_cons_succ])
              refine wpAny_take (i := 25) (v := .bool R) rfl (by kernel_rfl) (by kernel_rfl) (by kernel_rfl) (fun _ _ _ h => h) (Or.inl ⟨by simp [Region.wanted, yielded], fun W => by go_simp⟩) ?_
              try (simp only [Act.put, List.getElem_toArray, List.getElem_cons_succ, List.getElem_cons_zero, List.setIfInBounds_toArray, List.set_cons_zero, List.set_cons_succ])
              refine wpAny_take (i := 26) (v := .bool true) rfl (by kernel_rfl) (by kernel_rfl) (by kernel_rfl) (fun _ _ _ h => h) (Or.inl ⟨by simp [Region.wanted, yielded], fun W => by go_simp⟩) ?_
              try (simp only [Act.put, List.getElem_toArray, List.getElem_cons_succ, List.getElem_cons_zero, List.setIfInBounds_toArray, List.set_cons_zero, List.set_cons_succ])
              refine wpAny_take (i := 27) (v := .bool true) rfl (by kernel_rfl) (by kernel_rfl) (by kernel_rfl) (fun _ _ _ h => h) (Or.inl ⟨by simp [Region.wanted, yielded], fun W => by go_simp⟩) ?_
              try (simp only [Act.put, List.getElem_toArray, List.getElem_cons_succ, List.getElem_cons_zero, List.setIfInBounds_toArray, List.set_cons_zero, List.set_cons_succ])
              refine wpAny_take (i := 28) (v := .bool true) rfl (by kernel_rfl) (by kernel_rfl) (by kernel_rfl) (fun _ _ _ h => h) (Or.inl ⟨by simp [Region.wanted, yielded], fun W => by go_simp⟩) ?_
              try (simp only [Act.put, List.getElem_toArray, List.getElem_cons_succ, List.getElem_cons_zero, List.setIfInBounds_toArray, List.set_cons_zero, List.set_cons_succ])
              refine wpAny_done (by kernel_rfl) ?_ _
              go_wp2_with fail
              go_ret
              exact ⟨rfl, K5.out.then D10.out⟩
            · rw [if_pos (by simp [Region.wanted, yielded])]
              go_simp
              refine hK _ _ ?_
              clear hK K
              try (simp only [Act.put, List.getElem_toArray, List.getElem_cons_succ, List.getElem_cons_zero, List.setIfInBounds_toArray, List.set_cons_zero, List.set_cons_succ])
              refine wpAny_ready (rs := [21]) (by kernel_rfl) (by simp) ?_
              refine AllReady.cons (o := _) rfl (fun K hK => ?_) AllReady.nil
              rw [if_pos (by simp [Region.wanted, yielded])]
              go_simp
              refine hK _ _ ?_
              clear hK K
              try (simp only [Act.put, List.getElem_toArray, List.getElem_cons_succ, List.getElem_cons_zero, List.setIfInBounds_toArray, List.set_cons_zero, List.set_cons_succ])
              refine wpAny_take (i := 25) (v := .bool R) rfl (by kernel_rfl) (by kernel_rfl) (by kernel_rfl) (fun _ _ _ h => h) (Or.inl ⟨by simp [Region.wanted, yielded], fun W => by go_simp⟩) ?_
              try (simp only [Act.put, List.getElem_toArray, List.getElem_cons_succ, List.getElem_cons_zero, List.setIfInBounds_toArray, List.set_cons_zero, List.set_cons_succ])
              refine wpAny_take (i := 26) (v := .bool true) rfl (by kernel_rfl) (by kernel_rfl) (by kernel_rfl) (fun _ _ _ h => h) (Or.inl ⟨by simp [Region.wanted, yielded], fun W => by go_simp⟩) ?_
              try (simp only [Act.put, List.getElem_toArray, List.getElem_cons_succ, List.getElem_cons_zero, List.setIfInBounds_toArray, List.set_cons_zero, List.set_cons_succ])
              refine wpAny_take (i := 27) (v := .bool true) rfl (by kernel_rfl) (by kernel_rfl) (by kernel_rfl) (fun _ _ _ h => h) (Or.inl ⟨by simp [Region.wanted, yielded], fun W => by go_simp⟩) ?_
              try (simp only [Act.put, List.getElem_toArray, List.getElem_cons_succ, List.getElem_cons_zero, List.setIfInBounds_toArray, List.set_cons_zero, List.set_cons_succ])
              refine wpAny_take (i := 28) (v := .bool true) rfl (by kernel_rfl) (by kernel_rfl) (by kernel_rfl) (fun _ _ _ h => h) (Or.inl ⟨by simp [Region.wanted, yielded], fun W => by go_simp⟩) ?_
              try (simp only [Act.put, List.getElem_toArray, List.getElem_cons_succ, List.getElem_cons_zero, List.setIfInBounds_toArray, List.set_cons_zero, List.set_cons_succ])
              refine wpAny_done (by kernel_rfl) ?_ _
              go_wp2_with fail
              go_ret
              exact ⟨rfl, K5.out.then D10.out⟩
end Go.Proofs.Ytmhfbcapmlofbaa
