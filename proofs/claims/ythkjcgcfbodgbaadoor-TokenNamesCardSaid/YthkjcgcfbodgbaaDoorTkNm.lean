/-
  arbaclaw15.TokenNames returns true.
-/
import Derived.Test.YthkjcgcfbodgbaaDoorTkZ
import Derived.Test.YthkjcgcfbodgbaaDoorTkU
import Derived.Test.YthkjcgcfbodgbaaDoorTkT
import Derived.Deep.RegionWith
import Derived.Deep.CutRange
import Derived.Deep.RegionHeld3
namespace Go.Proofs.YthkjcgcfbodgbaaDoor
open Go.RowKit Go.Shelf
set_option linter.unusedSimpArgs false
set_option linter.unusedVariables false

theorem tw_full {f : Nat → Bool} : ∀ l : List Nat, (∀ c ∈ l, f c = true) → l.takeWhile f = l
  | [], _ => rfl
  | c :: t, h => by
    have h1 := h c (by simp)
    have h2 := tw_full t (fun x hx => h x (List.mem_cons_of_mem _ hx))
    simp [List.takeWhile, h1, h2]
theorem strB_mem {s : ByteArray} {c : Nat} (h : c ∈ strB s) : ∃ j, j < s.size ∧ c = bat s j := by
  obtain ⟨j, hj, rfl⟩ := List.getElem_of_mem h
  have hj2 : j < s.size := by rw [strB_len] at hj; exact hj
  refine ⟨j, hj2, ?_⟩
  rw [← strB_at]
  simp [List.getD, hj]
theorem ext_all (s : ByteArray) : s.extract 0 s.size = s := by
  apply str_extT
  rw [extract_listT]
  exact List.take_of_length_le (Nat.le_refl _)
/-- A text of the characters of words that begins with a letter is one word. -/
theorem scan_word {s : ByteArray} (h0 : 0 < s.size) (h8 : s.size ≤ 8000) (hl : letB (bat s 0) = true) (hw : ∀ j, j < s.size → inWordB (bat s j) = true) : scanS s = ([⟨1, s, 0, 0⟩, endTok s], 0, 0) := by
  have hsk : skipT (strB s) 0 = 0 := by
    have hb : blankB ((strB s).getD 0 0) = false := by
      rw [strB_at]
      unfold letB at hl
      simp only [Bool.and_eq_true, decide_eq_true_iff] at hl
      simp [blankB]; omega
    have hh : (strB s).getD 0 0 ≠ 35 := by
      rw [strB_at]
      unfold letB at hl
      simp only [Bool.and_eq_true, decide_eq_true_iff] at hl
      omega
    exact skipT_stop (by rw [strB_len]; exact h0) hb hh
  have hfirst : firstT ((strB s).drop 0) = (1, s.size, 0) := by
    have h2 := nowT_letter h0 hl
    unfold nowT at h2
    rw [h2, List.drop_zero, tw_full (strB s) (fun c hc => by
      obtain ⟨j, hj, rfl⟩ := strB_mem hc
      exact hw j hj), strB_len]
  have hend : skipT (strB s) s.size = s.size := skipT_end _ _ (by rw [strB_len]; exact Nat.le_refl _)
  obtain ⟨m, hm⟩ : ∃ m, s.size = m + 1 := ⟨s.size - 1, by omega⟩
  have hscan : scanL s = ([(1, 0, s.size, 0)], none) := by
    unfold scanL
    rw [hsk, scanF, if_pos (by rw [strB_len]; exact h0), hfirst]
    simp only [Nat.zero_add]
    rw [if_neg (by decide), hend]
    have h3 : scanF (strB s) s.size s.size = ([], none) := by
      conv => lhs; rw [show scanF (strB s) s.size s.size = scanF (strB s) (m + 1) s.size by rw [← hm]]
      rw [scanF, if_neg (by rw [strB_len]; omega)]
    rw [h3]
  rw [scanS_ok (by omega) (by rw [hscan]), hscan]
  simp only [List.map_cons, List.map_nil, tokOf, Nat.zero_add, ext_all]
  rfl
theorem kw_word : ∀ x ∈ kwdL, 0 < x.size ∧ x.size ≤ 8000 ∧ letB (bat x 0) = true ∧ (List.range x.size).all (fun j => inWordB (bat x j)) = true := by decide +kernel
theorem name_word {s : ByteArray} (h : validS s = true ∨ memS s kwdL = true) : scanS s = ([⟨1, s, 0, 0⟩, endTok s], 0, 0) := by
  rcases h with h | h
  · unfold validS at h
    simp only [Bool.and_eq_true, decide_eq_true_iff, List.all_eq_true, List.mem_range] at h
    obtain ⟨⟨⟨h1, h2⟩, h3⟩, _⟩ := h
    refine scan_word h1 (by omega) ?_ (fun j hj => ?_)
    · have := h3 0 h1
      rwa [show chrB (bat s 0) 0 = letB (bat s 0) by simp [chrB]] at this
    · have := h3 j hj
      unfold chrB at this
      unfold inWordB
      cases hl : letB (bat s j) with
      | true => rfl
      | false =>
        rw [hl] at this
        simp only [Bool.false_or, Bool.and_eq_true] at this
        simpa using this.2
  · obtain ⟨h1, h2, h3, h4⟩ := kw_word s ((memS_iff s kwdL).1 h)
    exact scan_word h1 h2 h3 (fun j hj => List.all_eq_true.1 h4 j (List.mem_range.2 hj))
/-- One word that is the whole text stands at its beginning. -/
theorem word_at {s : ByteArray} (h1 : (scanS s).1.length = 2) (h2 : ((scanS s).1.getD 0 tok0).t = s) : ((scanS s).1.getD 0 tok0).i = 0 := by
  by_cases h8 : 8000 < s.size
  · rw [scanS_long h8] at h1; cases h1
  · cases hq : (scanL s).2 with
    | some i => rw [scanS_bad h8 hq] at h1; cases h1
    | none =>
      rw [scanS_ok h8 hq] at h1 h2 ⊢
      simp only at h1 h2 ⊢
      cases hm : (scanL s).1 with
      | nil => rw [hm] at h1; simp at h1
      | cons y t =>
        rw [hm] at h2
        simp only [List.map_cons, List.cons_append, List.getD_cons_zero, tokOf] at h2 ⊢
        have h3 := congrArg ByteArray.size h2
        rw [ByteArray.size_extract] at h3
        by_cases h0 : s.size = 0
        · exfalso
          have hl : scanL s = ([], none) := by
            unfold scanL
            rw [scanF, if_neg (by rw [strB_len, h0]; exact Nat.not_lt_zero _)]
          rw [hl] at hm
          cases hm
        · show ((y.2.1 : Nat) : Int) = 0
          omega

theorem keywords_exN (w : World) : Calls Tryd.prog 26 #[] w fun e w' => ∃ g, e = .returned (.slice (some ⟨g, 0, none⟩) 20 20) ∧ Strs w' (.slice (some ⟨g, 0, none⟩) 20 20) kwdL ∧ Kept (fun _ => False) w w' :=
  (keywords_any w).mono fun e w' ⟨h1, h2, h3⟩ => ⟨_, h1, h2, h3⟩

set_option maxRecDepth 100000 in
set_option maxHeartbeats 6400000 in
theorem tnames_law (n : Nat) (s : ByteArray) (w : World) (hS : Sym w) (hn : n < 256) (hs : s.size ≤ maxLen) :
    Calls Tryd.prog 7 #[.int .u8 (n : Int), .string s] w fun e w' => e = .returned (.bool true) ∧ Kept (fun _ => False) w w' := by
  unfold maxLen at hs
  have HS := Lib.hid hS
  have HAW := Lib.hid (awake15_any w hS)
  have HW := Lib.hid (fun W => word8_any n W hn)
  obtain ⟨m, hm⟩ : ∃ m, m = min s.size 16 := ⟨_, rfl⟩
  have hmin : min (s.size : Int) 16 = (m : Int) := by omega
  have hm0 : (0 : Int) ≤ (m : Int) := by omega
  have hm1 : (m : Int) ≤ (s.size : Int) := by omega
  have hz : (s.extract 0 m).size ≤ 16 := by rw [ByteArray.size_extract]; omega
  generalize hzz : s.extract 0 m = z at hz
  have HZ := Lib.hid hzz
  clear hS hm hzz hn
  go_enter Tryd.func7, Tryd.ntmps7
  go_wp2_with fail
  refine HAW.out.mono ?_
  rintro e w1 ⟨rfl, k1⟩
  have K1 := Lib.hid k1
  clear k1 HAW
  go_wp2_with fail
  go_cut [24, 25, 26] from 17 to 26 (fun rv nv iv wx => ∃ y g, rv = .slice (some ⟨g, 0, none⟩) 2 2 ∧ nv = .int .i64 2 ∧ iv = .int .i64 0 ∧ Hid (Strs wx (.slice (some ⟨g, 0, none⟩) 2 2) [y, z] ∧ y.size ≤ 16 ∧ Kept (fun _ => False) w wx))
  case first =>
    go_region_with ((go_at_call 23; (with_reducible refine (HW.out _).mono ?_); rintro e w6 ⟨y, rfl, hy, -, k6⟩; have HY := Lib.hid hy; have K6 := Lib.hid k6; clear hy k6))
    all_goals
      go_wp2_with fail
      go_meet
      refine ⟨y, w6.heap.size, rfl, rfl, rfl, ?_, by have := HY.out; omega, (K1.out.drew.then K6.out).then (Kept.alloc _ _ _)⟩
      rw [HZ.out]
      exact strs_new w6 #[.string y, .string z] 9 2 [y, z] rfl rfl (by unfold maxLen; omega)
  case rest =>
    obtain ⟨y, g, rfl, rfl, rfl, hcc⟩ := hcut
    have HR := Lib.hid hcc.out.1
    have HYZ : Hid (∀ k, k < 2 → ([y, z].getD k ⟨#[]⟩).size ≤ 16) := fun k hk => by
      have := hcc.out.2.1
      match k, hk with
      | 0, _ => exact this
      | 1, _ => exact hz
    have KC := Lib.hid hcc.out.2.2
    clear hcc hz HZ HW K1
    go_wp2_with fail
    go_loopw [26] (fun iv wr => ∃ k : Nat, k ≤ 2 ∧ iv = .int .i64 k ∧ Hid (Kept (fun _ => False) wc wr)) (fun iv _ => 2 - (intOf iv).toNat)
    case atStart => exact ⟨0, by omega, rfl, Kept.refl _ _⟩
    case round =>
      obtain ⟨k, hk, rfl, hkw⟩ := hrel
      have l0 : (0 : Int) ≤ (k : Int) := by omega
      by_cases hlt : k < 2
      · have l1 : (k : Int) < 2 := by omega
        obtain ⟨g2, off, hg2, _, hcell⟩ := (HR.out.kept hkw.out (fun _ _ h => h)).at (k := k) hlt
        cases hg2
        rw [Nat.zero_add] at hcell
        have hxs := HYZ.out k hlt
        generalize [y, z].getD k ⟨#[]⟩ = x at hcell hxs
        have HSC := Lib.hid (fun W hW => tscan_any x W (by omega) hW)
        have hnw := fun h => name_word (s := x) h
        have hwa := fun h1 h2 => word_at (s := x) h1 h2
        obtain ⟨R, hR⟩ : ∃ R, R = scanS x := ⟨_, rfl⟩
        simp only [← hR] at HSC hnw hwa
        obtain ⟨l, o, b⟩ := R
        simp only at HSC hwa
        have hvf : ¬ (b = 0 ∧ l.length = 2 ∧ (l.getD 0 tok0).t = x ∧ (l.getD 0 tok0).k = 1) → validS x = false ∧ memS x kwdL = false := fun h => by
          refine ⟨?_, ?_⟩ <;> (rw [Bool.eq_false_iff]; intro e; apply h)
          · have := hnw (Or.inl e); cases this; exact ⟨rfl, rfl, rfl, rfl⟩
          · have := hnw (Or.inr e); cases this; exact ⟨rfl, rfl, rfl, rfl⟩
        clear hR hnw hxs
        have HV := Lib.hid (fun W => valid_any x W)
        have HCT := Lib.hid (fun W v (h : Strs W v kwdL) => contains_any v kwdL x W h)
        go_wp2_with fail
        refine (HSC.out _ (HS.out.kept (KC.out.then hkw.out) (fun h => h))).mono ?_
        rintro e w2 ⟨v2, rfl, o2, k2⟩
        have K2 := Lib.hid (hkw.out.then k2)
        have T2 := Lib.hid o2.toks
        clear o2 k2 HSC hcell
        obtain ⟨la, lc, rfl, z1, z2⟩ := T2.out.form
        by_cases hb : b = 0
        · subst hb
          by_cases hl : l.length = 2
          · obtain ⟨g3, off3, rfl, hg3, c0, c1, _, _⟩ := T2.out.at (k := 0) (by omega)
            rw [Nat.zero_mul, Nat.add_zero] at c0 c1
            obtain ⟨kk, hkk⟩ : ∃ kk, kk = (l.getD 0 tok0).k := ⟨_, rfl⟩
            obtain ⟨tt, htt⟩ : ∃ tt, tt = (l.getD 0 tok0).t := ⟨_, rfl⟩
            rw [← hkk] at c0
            rw [← htt] at c1
            have hl2 : Hid (l.length = 2) := hl
            rw [hl] at T2 z1 ⊢
            by_cases ht : tt = x
            · have hbt : (tt.toList == x.toList) = true := by rw [str_eq]; simp [ht]
              by_cases h1 : kk = 1
              · have htk : (l.getD 0 tok0).k = 1 := by rw [← hkk]; exact h1
                have htz := hwa hl2.out (by rw [← htt]; exact ht)
                replace htt : (l.getD 0 tok0).t = x := by rw [← htt]; exact ht
                subst h1
                subst ht
                clear hwa hkk
                cases hmem : memS tt kwdL with
                | true =>
                  rw [hmem] at HCT
                  have hnt : nameT l ⟨0, 0, 0⟩ = (⟨0, 8, 0⟩, ⟨#[]⟩) := by
                    have hp : peekS l ⟨0, 0, 0⟩ = l.getD 0 tok0 := peekS_at rfl (by show 0 < l.length; omega)
                    unfold nameT
                    rw [hp, htk, htt]
                    rw [if_pos (Or.inr hmem)]
                    rw [failS_yes rfl (by decide), hereS_some (by omega)]
                    have hj : min 0 (l.length - 1) = 0 := by omega
                    simp only [hj, htz]
                  clear hvf
                  go_wp2_with fail
                  refine (newRd_any _ l _ T2.out (by omega)).mono ?_
                  rintro e w3 ⟨rg, rv, rfl, h3, hrg, hrv, k3⟩
                  have HNM := Lib.hid h3.name
                  rw [hnt] at HNM
                  have K3 := Lib.hid (K2.out.then k3)
                  have hw2 := K2.out.size
                  clear h3 k3 hrv hnt
                  go_wp2_with fail
                  refine HNM.out.mono ?_
                  rintro e w4 ⟨rfl, h4, k4⟩
                  have H4 := Lib.hid h4
                  have K4 := Lib.hid (K3.out.trans k4 (T := fun _ => False) (fun _ _ e => e) (fun i hi e => by have e : i = rg := e; omega))
                  clear h4 k4 HNM
                  go_wp2_with fail
                  refine (H4.out.errs).mono ?_
                  rintro e w5 ⟨rfl, k5⟩
                  have K5 := Lib.hid (K4.out.then k5)
                  clear k5 H4
                  go_wp2_with fail
                  refine (keywords_exN _).mono ?_
                  rintro e w6 ⟨kg, rfl, s6, k6⟩
                  have K6 := Lib.hid (K5.out.then k6); have S6 := Lib.hid s6; clear k6 s6
                  go_wp2_with fail
                  refine (HCT.out _ _ S6.out).mono ?_
                  rintro e w7 ⟨rfl, rfl⟩
                  go_wp2_with fail
                  go_roundw
                  case rel => first | exact ⟨k + 1, by omega, by go_num, K6⟩ | ((repeat apply Exists.intro); exact ⟨⟨k + 1, by omega, by go_num, K6⟩, rfl⟩)
                  case measure => simp [intOf]; omega
                | false =>
                  rw [hmem] at HCT
                  cases hval : validS tt with
                  | true =>
                    rw [hval] at HV
                    have hnt : nameT l ⟨0, 0, 0⟩ = (⟨1, 0, 0⟩, tt) := by
                      have hp : peekS l ⟨0, 0, 0⟩ = l.getD 0 tok0 := peekS_at rfl (by show 0 < l.length; omega)
                      unfold nameT
                      rw [hp, htk, htt]
                      rw [if_neg (by rw [hmem]; decide), if_pos hval]
                      rw [nextS_yes (by rw [hp, htk]; decide)]
                    clear hvf
                    go_wp2_with fail
                    refine (newRd_any _ l _ T2.out (by omega)).mono ?_
                    rintro e w3 ⟨rg, rv, rfl, h3, hrg, hrv, k3⟩
                    have HNM := Lib.hid h3.name
                    rw [hnt] at HNM
                    have K3 := Lib.hid (K2.out.then k3)
                    have hw2 := K2.out.size
                    clear h3 k3 hrv hnt
                    go_wp2_with fail
                    refine HNM.out.mono ?_
                    rintro e w4 ⟨rfl, h4, k4⟩
                    have H4 := Lib.hid h4
                    have K4 := Lib.hid (K3.out.trans k4 (T := fun _ => False) (fun _ _ e => e) (fun i hi e => by have e : i = rg := e; omega))
                    clear h4 k4 HNM
                    go_wp2_with fail
                    refine (H4.out.errs).mono ?_
                    rintro e w5 ⟨rfl, k5⟩
                    have K5 := Lib.hid (K4.out.then k5)
                    clear k5 H4
                    go_wp2_with fail
                    refine (keywords_exN _).mono ?_
                    rintro e w6 ⟨kg, rfl, s6, k6⟩
                    have K6 := Lib.hid (K5.out.then k6); have S6 := Lib.hid s6; clear k6 s6
                    go_wp2_with fail
                    refine (HCT.out _ _ S6.out).mono ?_
                    rintro e w7 ⟨rfl, rfl⟩
                    go_wp2_with fail
                    refine (HV.out _).mono ?_
                    rintro e w8 ⟨rfl, k8⟩
                    have K8 := Lib.hid (K6.out.then k8); clear k8
                    go_wp2_with fail
                    go_roundw
                    case rel => first | exact ⟨k + 1, by omega, by go_num, K8⟩ | ((repeat apply Exists.intro); exact ⟨⟨k + 1, by omega, by go_num, K8⟩, rfl⟩)
                    case measure => simp [intOf]; omega
                  | false =>
                    rw [hval] at HV
                    have hnt : nameT l ⟨0, 0, 0⟩ = (⟨0, 9, 0⟩, ⟨#[]⟩) := by
                      have hp : peekS l ⟨0, 0, 0⟩ = l.getD 0 tok0 := peekS_at rfl (by show 0 < l.length; omega)
                      unfold nameT
                      rw [hp, htk, htt]
                      rw [if_neg (by rw [hmem]; decide), if_neg (by rw [hval]; decide)]
                      rw [failS_yes rfl (by decide), hereS_some (by omega)]
                      have hj : min 0 (l.length - 1) = 0 := by omega
                      simp only [hj, htz]
                    clear hvf
                    go_wp2_with fail
                    refine (newRd_any _ l _ T2.out (by omega)).mono ?_
                    rintro e w3 ⟨rg, rv, rfl, h3, hrg, hrv, k3⟩
                    have HNM := Lib.hid h3.name
                    rw [hnt] at HNM
                    have K3 := Lib.hid (K2.out.then k3)
                    have hw2 := K2.out.size
                    clear h3 k3 hrv hnt
                    go_wp2_with fail
                    refine HNM.out.mono ?_
                    rintro e w4 ⟨rfl, h4, k4⟩
                    have H4 := Lib.hid h4
                    have K4 := Lib.hid (K3.out.trans k4 (T := fun _ => False) (fun _ _ e => e) (fun i hi e => by have e : i = rg := e; omega))
                    clear h4 k4 HNM
                    go_wp2_with fail
                    refine (H4.out.errs).mono ?_
                    rintro e w5 ⟨rfl, k5⟩
                    have K5 := Lib.hid (K4.out.then k5)
                    clear k5 H4
                    go_wp2_with fail
                    refine (keywords_exN _).mono ?_
                    rintro e w6 ⟨kg, rfl, s6, k6⟩
                    have K6 := Lib.hid (K5.out.then k6); have S6 := Lib.hid s6; clear k6 s6
                    go_wp2_with fail
                    refine (HCT.out _ _ S6.out).mono ?_
                    rintro e w7 ⟨rfl, rfl⟩
                    go_wp2_with fail
                    refine (HV.out _).mono ?_
                    rintro e w8 ⟨rfl, k8⟩
                    have K8 := Lib.hid (K6.out.then k8); clear k8
                    go_wp2_with fail
                    go_roundw
                    case rel => first | exact ⟨k + 1, by omega, by go_num, K8⟩ | ((repeat apply Exists.intro); exact ⟨⟨k + 1, by omega, by go_num, K8⟩, rfl⟩)
                    case measure => simp [intOf]; omega
              · have hb1 : ((kk : Int) == 1) = false := beq_eq_false_iff_ne.2 (by omega)
                have hb2 : ((kk : Int) != 1) = true := by simp only [bne, hb1, Bool.not_false]
                obtain ⟨hv0, hm0'⟩ := hvf (fun e => h1 (by rw [hkk]; exact e.2.2.2))
                rw [hv0] at HV
                rw [hm0'] at HCT
                clear hvf hwa htt hkk h1 hv0 hm0'
                go_wp2_with fail
                refine (HV.out _).mono ?_
                rintro e w3 ⟨rfl, k3⟩
                have K3 := Lib.hid (K2.out.then k3); clear k3
                go_wp2_with fail
                refine (keywords_exN _).mono ?_
                rintro e w4 ⟨kg, rfl, s4, k4⟩
                have K4 := Lib.hid (K3.out.then k4); have S4 := Lib.hid s4; clear k4 s4
                go_wp2_with fail
                refine (HCT.out _ _ S4.out).mono ?_
                rintro e w5 ⟨rfl, rfl⟩
                go_wp2_with fail
                go_roundw
                case rel => first | exact ⟨k + 1, by omega, by go_num, K4⟩ | ((repeat apply Exists.intro); exact ⟨⟨k + 1, by omega, by go_num, K4⟩, rfl⟩)
                case measure => simp [intOf]; omega
            · have hbt : (tt.toList == x.toList) = false := by rw [str_eq]; simp [ht]
              have hbt2 : (tt.toList != x.toList) = true := by simp only [bne, hbt, Bool.not_false]
              obtain ⟨hv0, hm0'⟩ := hvf (fun e => ht (by rw [htt]; exact e.2.2.1))
              rw [hv0] at HV
              rw [hm0'] at HCT
              clear hvf hwa htt hkk ht hv0 hm0'
              go_wp2_with fail
              refine (HV.out _).mono ?_
              rintro e w3 ⟨rfl, k3⟩
              have K3 := Lib.hid (K2.out.then k3); clear k3
              go_wp2_with fail
              refine (keywords_exN _).mono ?_
              rintro e w4 ⟨kg, rfl, s4, k4⟩
              have K4 := Lib.hid (K3.out.then k4); have S4 := Lib.hid s4; clear k4 s4
              go_wp2_with fail
              refine (HCT.out _ _ S4.out).mono ?_
              rintro e w5 ⟨rfl, rfl⟩
              go_wp2_with fail
              go_roundw
              case rel => first | exact ⟨k + 1, by omega, by go_num, K4⟩ | ((repeat apply Exists.intro); exact ⟨⟨k + 1, by omega, by go_num, K4⟩, rfl⟩)
              case measure => simp [intOf]; omega
          · have hl1 : (((l.length : Nat) : Int) == 2) = false := beq_eq_false_iff_ne.2 (by omega)
            have hl2 : (((l.length : Nat) : Int) != 2) = true := by simp only [bne, hl1, Bool.not_false]
            obtain ⟨hv0, hm0'⟩ := hvf (fun e => hl e.2.1)
            rw [hv0] at HV
            rw [hm0'] at HCT
            clear hvf hwa hv0 hm0'
            go_wp2_with fail
            refine (HV.out _).mono ?_
            rintro e w3 ⟨rfl, k3⟩
            have K3 := Lib.hid (K2.out.then k3); clear k3
            go_wp2_with fail
            refine (keywords_exN _).mono ?_
            rintro e w4 ⟨kg, rfl, s4, k4⟩
            have K4 := Lib.hid (K3.out.then k4); have S4 := Lib.hid s4; clear k4 s4
            go_wp2_with fail
            refine (HCT.out _ _ S4.out).mono ?_
            rintro e w5 ⟨rfl, rfl⟩
            go_wp2_with fail
            go_roundw
            case rel => first | exact ⟨k + 1, by omega, by go_num, K4⟩ | ((repeat apply Exists.intro); exact ⟨⟨k + 1, by omega, by go_num, K4⟩, rfl⟩)
            case measure => simp [intOf]; omega
        · have hb1 : ((b : Int) == 0) = false := beq_eq_false_iff_ne.2 (by omega)
          have hb2 : ((b : Int) != 0) = true := by simp only [bne, hb1, Bool.not_false]
          obtain ⟨hv0, hm0'⟩ := hvf (fun e => hb e.1)
          rw [hv0] at HV
          rw [hm0'] at HCT
          clear hvf hwa hv0 hm0'
          go_wp2_with fail
          refine (HV.out _).mono ?_
          rintro e w3 ⟨rfl, k3⟩
          have K3 := Lib.hid (K2.out.then k3); clear k3
          go_wp2_with fail
          refine (keywords_exN _).mono ?_
          rintro e w4 ⟨kg, rfl, s4, k4⟩
          have K4 := Lib.hid (K3.out.then k4); have S4 := Lib.hid s4; clear k4 s4
          go_wp2_with fail
          refine (HCT.out _ _ S4.out).mono ?_
          rintro e w5 ⟨rfl, rfl⟩
          go_wp2_with fail
          go_roundw
          case rel => first | exact ⟨k + 1, by omega, by go_num, K4⟩ | ((repeat apply Exists.intro); exact ⟨⟨k + 1, by omega, by go_num, K4⟩, rfl⟩)
          case measure => simp [intOf]; omega
      · have l1 : ¬ (k : Int) < 2 := by omega
        go_wp2_with fail
        go_ret
        exact ⟨rfl, KC.out.then hkw.out⟩
end Go.Proofs.YthkjcgcfbodgbaaDoor
