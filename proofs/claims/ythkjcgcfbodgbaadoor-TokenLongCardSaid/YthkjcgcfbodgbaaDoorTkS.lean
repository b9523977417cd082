/-
  Tokens: the reference's Scan.
-/
import Derived.Test.YthkjcgcfbodgbaaDoorTkL
import Derived.Deep.QuietTactic
import Derived.StillTailTactics
namespace Go.Proofs.YthkjcgcfbodgbaaDoor
open Go.RowKit Go.Shelf
set_option linter.unusedSimpArgs false
set_option linter.unusedVariables false

theorem info_rtok : (Tryd.prog.info? 44).map (fun i => (i.zero, i.size, i.bytes)) = some (some (.agg #[.int .i64 0, .string ⟨#[]⟩, .int .i64 0, .int .i64 0]), 4, 40) := by kernel_rfl

theorem take_tw {f : Nat → Bool} {s : ByteArray} {i k : Nat} (hik : i ≤ k) (hk : k ≤ s.size) (h1 : ∀ j, i ≤ j → j < k → f (bat s j) = true) (h2 : k < s.size → f (bat s k) = false) : i + (((strB s).drop i).takeWhile f).length = k := by
  rw [takeWhileN_at ((strB s).drop i) (k - i) (by rw [List.length_drop, strB_len]; omega) (fun j hj => by rw [bat_drop]; exact h1 _ (by omega) (by omega)) (fun hj => by
    rw [List.length_drop, strB_len] at hj
    rw [bat_drop, show i + (k - i) = k by omega]
    exact h2 (by omega))]
  omega
theorem valN_step (l : List Nat) (m : Nat) (hm : m < l.length) : valN (l.take (m + 1)) = 10 * valN (l.take m) + (l.getD m 0 - 48) := by
  have e : l.take (m + 1) = l.take m ++ [l.getD m 0] := by
    rw [List.take_succ_eq_append_getElem hm]
    simp [List.getD, hm]
  unfold valN
  rw [e, List.foldl_append]
  rfl
theorem dig_take {l : List Nat} (m : Nat) (hm : m ≤ (l.takeWhile digB).length) : ∀ c ∈ l.take m, digB c = true := fun c hc => by
  refine takeWhile_dig (l := l) c ?_
  rw [← List.take_append_drop m (l.take (l.takeWhile digB).length), List.take_take, Nat.min_eq_left hm]
  exact List.mem_append_left _ hc
theorem val_small {l : List Nat} (m : Nat) (hm : m ≤ (l.takeWhile digB).length) (h6 : m ≤ 6) : valN (l.take m) < 1000000 := by
  have h := valN_lt (l.take m) 0 (dig_take m hm)
  rw [Nat.zero_add, Nat.one_mul] at h
  have hp : (10 : Nat) ^ (l.take m).length ≤ 10 ^ 6 := Nat.pow_le_pow_right (by decide) (by rw [List.length_take]; omega)
  have e : (10 : Nat) ^ 6 = 1000000 := by decide
  rw [e] at hp
  exact Nat.lt_of_lt_of_le h hp
theorem dig_at {l : List Nat} (m : Nat) (hm : m < (l.takeWhile digB).length) (hl : m < l.length) : 48 ≤ l.getD m 0 ∧ l.getD m 0 ≤ 57 := by
  have h := takeWhile_dig (l := l) (f := digB) (l.getD m 0) (by
    have e : l.getD m 0 = (l.take (l.takeWhile digB).length)[m]'(by rw [List.length_take]; omega) := by simp [List.getD, hl]
    rw [e]; exact List.getElem_mem _)
  unfold digB at h
  simpa only [Bool.and_eq_true, decide_eq_true_iff] using h

/-- The box of a number whose digits are taken one by one. -/
structure NumBox (w1 wr : World) (b : Nat) (x : ByteArray) (n i : Nat) : Prop where
  c0 : wr.cell? ⟨b, 0, none⟩ = some (.int .i64 2)
  c1 : wr.cell? ⟨b, 1, none⟩ = some (.string x)
  c2 : wr.cell? ⟨b, 2, none⟩ = some (.int .i64 (n : Int))
  c3 : wr.cell? ⟨b, 3, none⟩ = some (.int .i64 (i : Int))
  f2 : wr.frozen? ⟨b, 2, none⟩ = false
  lt : b < wr.heap.size
  kept : Kept (fun k => k = b) w1 wr
theorem NumBox.drew {w1 wr : World} {b : Nat} {x : ByteArray} {n i : Nat} (h : NumBox w1 wr b x n i) : NumBox w1 wr.drew b x n i := ⟨h.c0, h.c1, h.c2, h.c3, h.f2, h.lt, h.kept.drew⟩
theorem NumBox.set {w1 wr : World} {b : Nat} {x : ByteArray} {n i : Nat} (h : NumBox w1 wr b x n i) (m : Nat) : NumBox w1 (wr.setCell ⟨b, 2, none⟩ (.int .i64 (m : Int))) b x m i := by
  have h0 := h.c0; have h1 := h.c1; have h2 := h.c2; have h3 := h.c3; have hf := h.f2; have hl := h.lt
  refine ⟨by go_simp, by go_simp, by go_simp, by go_simp, by go_simp, by simp; omega, h.kept.trans (Kept.setCell (fun k => k = b) wr ⟨b, 2, none⟩ _ rfl) (fun _ _ h => h) (fun _ _ h => h)⟩

set_option maxRecDepth 100000 in
set_option maxHeartbeats 12800000 in
theorem rscan_any (s : ByteArray) (w : World) (hs : s.size ≤ 1000000) :
    Calls Tryd.prog 39 #[.string s] w fun e w' => ∃ v, e = .returned (.tuple #[v, .int .i64 ((scanS s).2.1 : Nat), .int .i64 ((scanS s).2.2 : Nat)]) ∧ OwnK .i64 44 w.heap.size w' v (scanS s).1 ∧ Kept (fun _ => False) w w' := by
  obtain ⟨i0, hi, hz0, hz1, hz2⟩ := info_parts info_rtok
  by_cases h8 : 8000 < s.size
  · have l1 : (8000 : Int) < (s.size : Int) := by omega
    rw [scanS_long h8]
    go_enter Tryd.func39, Tryd.ntmps39
    go_wp2_with fail
    go_ret3
    exact ⟨_, rfl, OwnK.nil _ _ _ _, Kept.refl _ _⟩
  · have l1 : ¬ (8000 : Int) < (s.size : Int) := by omega
    have hsk := skipT_le (strB s) 0 (by omega)
    rw [strB_len] at hsk
    have HSK := Lib.hid (fun W => rskip_any s 0 W (by omega) hs)
    have HS0 := Lib.hid (⟨OwnK.nil .i64 44 w.heap.size w, by simp, ScanAt.start s, Kept.refl _ _⟩ : ScanInv .i64 44 s w w (.slice none 0 0) [] (skipT (strB s) 0))
    generalize skipT (strB s) 0 = i1 at HSK HS0 hsk
    have HAT := Lib.hid (bat_at s)
    obtain ⟨R, hR⟩ : ∃ R, R = scanS s := ⟨_, rfl⟩
    rw [← hR]
    have HR := Lib.hid hR
    clear hR
    go_enter Tryd.func39, Tryd.ntmps39
    go_wp2_with fail
    refine (HSK.out _).mono ?_
    rintro e w1 ⟨rfl, rfl⟩
    go_wp2_with fail
    go_loopw [5, 6] (fun lv iv wr => ∃ k : Nat, k ≤ s.size ∧ iv = .int .i64 k ∧ Hid (∃ ts, ScanInv .i64 44 s w wr lv ts k)) (fun _ iv _ => s.size - (intOf iv).toNat)
    case atStart => exact ⟨i1, by omega, rfl, ⟨_, HS0.out⟩⟩
    case round =>
      obtain ⟨k, hk, rfl, hex⟩ := hrel
      obtain ⟨ts, hinv⟩ := hex.out
      have HINV := Lib.hid hinv
      have hlen := hinv.len
      obtain ⟨la, lc, hform, hlc1, hlc2⟩ := hinv.row.form
      subst hform
      have hown := hinv.row
      unfold OwnK at hown
      obtain ⟨N, hN⟩ : ∃ N, N = ts.length := ⟨_, rfl⟩
      rw [← hN] at hlen hlc1 HINV hown ⊢
      have HN0 := Lib.hid hN
      have HOWN := Lib.hid hown
      have hbs := hinv.kept.size
      clear hex hinv hN hown HSK
      have l0 : (0 : Int) ≤ (k : Int) := by omega
      by_cases hlt : k < s.size
      · have l2 : (k : Int) < (s.size : Int) := by omega
        have hm1 : N + 1 ≤ maxLen := by unfold maxLen; omega
        have hm2 : (N + 1) * 40 ≤ 140737488355328 := by omega
        have ek := HAT.out k
        obtain ⟨c, hc⟩ : ∃ c, c = bat s k := ⟨_, rfl⟩
        rw [← hc] at ek
        have HC := Lib.hid hc
        clear hc
        have HLE := Lib.hid (fun W => rletter_any c W)
        have HDI := Lib.hid (fun W => rdigit_any c W)
        cases hlb : letB c with
        | true =>
          rw [hlb] at HLE
          have hnow := nowT_letter hlt (by rw [← HC.out]; exact hlb)
          have HNOW := Lib.hid hnow
          have HLB := Lib.hid hlb
          clear hlb hnow HDI
          go_wp2_with fail
          refine (HLE.out _).mono ?_
          rintro e w1 ⟨rfl, rfl⟩
          go_wp2_with fail
          go_loop [8] (fun iv => ∃ j : Nat, k ≤ j ∧ j ≤ s.size ∧ iv = .int .i64 j ∧ Hid (∀ i, k ≤ i → i < j → inWordB (bat s i) = true)) (fun iv => s.size - (intOf iv).toNat)
          case atStart => exact ⟨k, by omega, by omega, rfl, fun i h1 h2 => by omega⟩
          case round =>
            obtain ⟨j, hkj, hj, rfl, hall⟩ := hrel
            have j0 : (0 : Int) ≤ (j : Int) := by omega
            by_cases hjt : j < s.size
            · have j1 : (j : Int) < (s.size : Int) := by omega
              have ej := HAT.out j
              obtain ⟨d, hd⟩ : ∃ d, d = bat s j := ⟨_, rfl⟩
              rw [← hd] at ej
              have HD := Lib.hid hd
              clear hd
              have HLE2 := Lib.hid (fun W => rletter_any d W)
              have HDI2 := Lib.hid (fun W => rdigit_any d W)
              have hmore : inWordB d = true → Hid (∀ i, k ≤ i → i < j + 1 → inWordB (bat s i) = true) := fun hw => fun i h1 h2 => by
                by_cases e : i < j
                · exact hall.out i h1 e
                · obtain rfl : i = j := by omega
                  rw [← HD.out]; exact hw
              cases hl2 : letB d with
              | true =>
                rw [hl2] at HLE2
                have HM := hmore (by simp [inWordB, hl2])
                clear hmore hall hl2 HD
                go_wp2_with fail
                refine (HLE2.out _).mono ?_
                rintro e w1 ⟨rfl, rfl⟩
                go_wp2_with fail
                go_round
                case rel => exact ⟨j + 1, by omega, by omega, by go_num, HM⟩
                case measure => simp [intOf]; omega
              | false =>
                rw [hl2] at HLE2
                cases hd2 : digB d with
                | true =>
                  rw [hd2] at HDI2
                  have HM := hmore (by simp [inWordB, hd2])
                  clear hmore hall hl2 hd2 HD
                  go_wp2_with fail
                  refine (HLE2.out _).mono ?_
                  rintro e w1 ⟨rfl, rfl⟩
                  go_wp2_with fail
                  refine (HDI2.out _).mono ?_
                  rintro e w1 ⟨rfl, rfl⟩
                  go_wp2_with fail
                  go_round
                  case rel => exact ⟨j + 1, by omega, by omega, by go_num, HM⟩
                  case measure => simp [intOf]; omega
                | false =>
                  rw [hd2] at HDI2
                  by_cases h95 : d = 95
                  · have HM := hmore (by simp [inWordB, h95])
                    clear hmore hall hl2 hd2 HD
                    subst h95
                    go_wp2_with fail
                    refine (HLE2.out _).mono ?_
                    rintro e w1 ⟨rfl, rfl⟩
                    go_wp2_with fail
                    refine (HDI2.out _).mono ?_
                    rintro e w1 ⟨rfl, rfl⟩
                    go_wp2_with fail
                    go_round
                    case rel => exact ⟨j + 1, by omega, by omega, by go_num, HM⟩
                    case measure => simp [intOf]; omega
                  · have hb95 : ((d : Int) == 95) = false := beq_eq_false_iff_ne.2 (by omega)
                    have hfin : inWordB d = false := by simp [inWordB, hl2, hd2, h95]
                    have hE := take_tw (f := inWordB) hkj hj hall.out (fun _ => by rw [← HD.out]; exact hfin)
                    have hkE : k < j := by
                      by_cases e : k = j
                      · exfalso
                        have hw := HLB.out
                        rw [HC.out, e, ← HD.out] at hw
                        unfold inWordB at hfin
                        rw [hw] at hfin
                        cases hfin
                      · omega
                    have hnow := HNOW.out
                    have hnn : (((strB s).drop k).takeWhile inWordB).length = j - k := by omega
                    rw [hnn] at hnow
                    obtain ⟨E, hEj⟩ : ∃ E, E = j := ⟨_, rfl⟩
                    subst hEj
                    have hnE : k + (E - k) = E := by omega
                    have HN := Lib.hid (HINV.out.at_.next hlt (by rw [hnow]; exact Nat.succ_ne_zero 0))
                    rw [hnow] at HN
                    unfold tokOf at HN
                    simp only [hnE] at HN
                    have hsk2 := skipT_le (strB s) E (by rw [strB_len]; omega)
                    rw [strB_len] at hsk2
                    have HSK2 := Lib.hid (fun W => rskip_any s E W (by omega) hs)
                    generalize skipT (strB s) E = k2 at HN HSK2 hsk2
                    clear hnow hnE hnn hE hall HNOW hmore hl2 hd2 h95 hfin HD
                    go_wp2_with fail
                    refine (HLE2.out _).mono ?_
                    rintro e w1 ⟨rfl, rfl⟩
                    go_wp2_with fail
                    refine (HDI2.out _).mono ?_
                    rintro e w1 ⟨rfl, rfl⟩
                    have lE : ((E : Int) == 0) = false := beq_eq_false_iff_ne.2 (by omega)
                    have m1 : (k : Int) ≤ (E : Int) := by omega
                    have m2 : (E : Int) ≤ (s.size : Int) := by omega
                    have m0 : (0 : Int) ≤ (E : Int) := by omega
                    have HOWN2 := HOWN
                    have KB : Hid (Kept (fun _ => False) w wr) := HINV.out.kept
                    go_wp2_with fail
                    go_loop [9] (fun iv => iv = .int .i64 k) (fun iv => 0)
                    case atStart => rfl
                    case round =>
                      obtain rfl := hrel
                      have hb6 : w.heap.size ≤ ((wr.alloc (.cells #[.int .i64 1, .string (s.extract k E), .int .i64 0, .int .i64 k] 44)).alloc (.cells #[.int .i64 1, .string (s.extract k E), .int .i64 0, .int .i64 k] 44)).heap.size := by simp; omega
                      go_wp2_with (at_builtin; refine wpList_append_lies _ rfl _ _ _ rfl w.heap.size 44 i0 _ 4 40 Tryd.underlying42 hi hz0 hz1 hz2 rfl (by omega) (.slice la N lc) _ _ rfl ((HOWN2.out.alloc _).alloc _) ⟨wr.heap.size + 1, 0, none⟩ 1 1 [.int .i64 1, .string (s.extract k E), .int .i64 0, .int .i64 k] rfl rfl (news_two wr #[.int .i64 1, .string (s.extract k E), .int .i64 0, .int .i64 k] 44) (by simp [Value.oneCell']) (by omega) hm1 hm2 hb6 (wr.heap.size + 2) (by simp) ?_)
                      intro gg cap w7 hown7 hgrow hat hgl
                      have kp : Kept (blk (.slice la N lc)) wr w7 := ((Kept.alloc (fun _ => False) wr (.cells #[.int .i64 1, .string (s.extract k E), .int .i64 0, .int .i64 k] 44)).then (Kept.alloc (fun _ => False) _ (.cells #[.int .i64 1, .string (s.extract k E), .int .i64 0, .int .i64 k] 44))).trans (Kept.ofGrown (S := blk (.slice la N lc)) hgrow fun k e => e) (fun _ _ h => h.elim) (fun _ _ h => h)
                      have KF : Kept (fun _ => False) w w7 := KB.out.trans kp (fun _ _ h => h) (fun i hi e => by have := (HOWN2.out.lt _ e).1; omega)
                      have HIV : Hid (∃ ts, ScanInv .i64 44 s w w7 (.slice (some ⟨gg, 0, none⟩) (N + 1) cap) ts k2) := by
                        refine ⟨ts ++ [⟨1, s.extract k E, (0 : Nat), (k : Nat)⟩], OwnK.push ?_, ?_, HN.out, KF⟩
                        · rw [← HN0.out]; exact hown7
                        · rw [List.length_append, ← HN0.out]; show N + 1 ≤ k2; omega
                      clear hown7 hgrow hat hgl kp KF hb6
                      go_wp2_with fail
                      refine (HSK2.out _).mono ?_
                      rintro e w8 ⟨rfl, rfl⟩
                      go_wp2_with fail
                      go_roundw
                      case rel => first | exact ⟨k2, by omega, by go_num, HIV⟩ | ((repeat apply Exists.intro); exact ⟨⟨k2, by omega, by go_num, HIV⟩, rfl⟩)
                      case measure => simp [intOf]; omega
            · obtain rfl : j = s.size := by omega
              have j1 : ¬ ((s.size : Nat) : Int) < (s.size : Int) := by omega
              have hE := take_tw (f := inWordB) hkj hj hall.out (fun h => by omega)
              have hkE : k < s.size := by
                by_cases e : k = s.size
                · exfalso
                  omega
                · omega
              have hnow := HNOW.out
              have hnn : (((strB s).drop k).takeWhile inWordB).length = s.size - k := by omega
              rw [hnn] at hnow
              have hnE : k + (s.size - k) = s.size := by omega
              have HN := Lib.hid (HINV.out.at_.next hlt (by rw [hnow]; exact Nat.succ_ne_zero 0))
              rw [hnow] at HN
              unfold tokOf at HN
              simp only [hnE] at HN
              have hsk2 := skipT_le (strB s) s.size (by rw [strB_len]; omega)
              rw [strB_len] at hsk2
              have HSK2 := Lib.hid (fun W => rskip_any s s.size W (by omega) hs)
              generalize skipT (strB s) s.size = k2 at HN HSK2 hsk2
              clear hnow hnE hnn hE hall HNOW 
              have lE : ((s.size : Int) == 0) = false := beq_eq_false_iff_ne.2 (by omega)
              have m1 : (k : Int) ≤ (s.size : Int) := by omega
              have m2 : (s.size : Int) ≤ (s.size : Int) := by omega
              have m0 : (0 : Int) ≤ (s.size : Int) := by omega
              have HOWN2 := HOWN
              have KB : Hid (Kept (fun _ => False) w wr) := HINV.out.kept
              go_wp2_with fail
              go_loop [9] (fun iv => iv = .int .i64 k) (fun iv => 0)
              case atStart => rfl
              case round =>
                obtain rfl := hrel
                have hb6 : w.heap.size ≤ ((wr.alloc (.cells #[.int .i64 1, .string (s.extract k s.size), .int .i64 0, .int .i64 k] 44)).alloc (.cells #[.int .i64 1, .string (s.extract k s.size), .int .i64 0, .int .i64 k] 44)).heap.size := by simp; omega
                go_wp2_with (at_builtin; refine wpList_append_lies _ rfl _ _ _ rfl w.heap.size 44 i0 _ 4 40 Tryd.underlying42 hi hz0 hz1 hz2 rfl (by omega) (.slice la N lc) _ _ rfl ((HOWN2.out.alloc _).alloc _) ⟨wr.heap.size + 1, 0, none⟩ 1 1 [.int .i64 1, .string (s.extract k s.size), .int .i64 0, .int .i64 k] rfl rfl (news_two wr #[.int .i64 1, .string (s.extract k s.size), .int .i64 0, .int .i64 k] 44) (by simp [Value.oneCell']) (by omega) hm1 hm2 hb6 (wr.heap.size + 2) (by simp) ?_)
                intro gg cap w7 hown7 hgrow hat hgl
                have kp : Kept (blk (.slice la N lc)) wr w7 := ((Kept.alloc (fun _ => False) wr (.cells #[.int .i64 1, .string (s.extract k s.size), .int .i64 0, .int .i64 k] 44)).then (Kept.alloc (fun _ => False) _ (.cells #[.int .i64 1, .string (s.extract k s.size), .int .i64 0, .int .i64 k] 44))).trans (Kept.ofGrown (S := blk (.slice la N lc)) hgrow fun k e => e) (fun _ _ h => h.elim) (fun _ _ h => h)
                have KF : Kept (fun _ => False) w w7 := KB.out.trans kp (fun _ _ h => h) (fun i hi e => by have := (HOWN2.out.lt _ e).1; omega)
                have HIV : Hid (∃ ts, ScanInv .i64 44 s w w7 (.slice (some ⟨gg, 0, none⟩) (N + 1) cap) ts k2) := by
                  refine ⟨ts ++ [⟨1, s.extract k s.size, (0 : Nat), (k : Nat)⟩], OwnK.push ?_, ?_, HN.out, KF⟩
                  · rw [← HN0.out]; exact hown7
                  · rw [List.length_append, ← HN0.out]; show N + 1 ≤ k2; omega
                clear hown7 hgrow hat hgl kp KF hb6
                go_wp2_with fail
                refine (HSK2.out _).mono ?_
                rintro e w8 ⟨rfl, rfl⟩
                go_wp2_with fail
                go_roundw
                case rel => first | exact ⟨k2, by omega, by go_num, HIV⟩ | ((repeat apply Exists.intro); exact ⟨⟨k2, by omega, by go_num, HIV⟩, rfl⟩)
                case measure => simp [intOf]; omega
        | false =>
          rw [hlb] at HLE
          cases hdb : digB c with
          | true =>
            rw [hdb] at HDI
            have HNU := Lib.hid (fun W => rnumber_any s k W hlt hs)
            have hpre : (((strB s).drop k).takeWhile digB).length ≤ s.size - k := by
              have := (List.takeWhile_prefix (p := digB) (l := (strB s).drop k)).length_le
              rw [List.length_drop, strB_len] at this; exact this
            rcases nowT_digit hlt (by rw [← HC.out]; exact hlb) (by rw [← HC.out]; exact hdb) with ⟨q1, q2⟩ | ⟨q1, q2, q3, q4⟩
            · rw [q1] at HNU
              have hr : R = ([], k, 8) := by
                rw [HR.out]
                exact scanS_bad h8 (HINV.out.at_.bad hlt (by rw [q2]))
              have K2 := Lib.hid HINV.out.kept
              clear HR q1 q2 hlb hdb hpre
              subst hr
              go_wp2_with fail
              refine (HLE.out _).mono ?_
              rintro e w1 ⟨rfl, rfl⟩
              go_wp2_with fail
              refine (HDI.out _).mono ?_
              rintro e w1 ⟨rfl, rfl⟩
              go_wp2_with fail
              refine (HNU.out _).mono ?_
              rintro e w1 ⟨rfl, rfl⟩
              go_wp2_with fail
              go_ret3
              exact ⟨_, rfl, OwnK.nil _ _ _ _, K2.out.then (Kept.alloc _ _ _)⟩
            · rw [q1] at HNU
              have HN := Lib.hid (HINV.out.at_.next hlt (by rw [q2]; exact Nat.succ_ne_zero 1))
              rw [q2] at HN
              unfold tokOf at HN
              simp only at HN
              obtain ⟨D, hD⟩ : ∃ D, D = (strB s).drop k := ⟨_, rfl⟩
              rw [← hD] at HNU HN q3 q4 hpre
              have hDl : D.length = s.size - k := by rw [hD, List.length_drop, strB_len]
              have HDD : Hid (∀ m, D.getD m 0 = bat s (k + m)) := fun m => by rw [hD, bat_drop]
              have HDA := Lib.hid (fun m hm => dig_at (l := D) m hm (by rw [hDl]; omega))
              have HDV := Lib.hid (fun m hm h6 => val_small (l := D) m hm h6)
              have HDS := Lib.hid (fun m hm => valN_step D m (by rw [hDl]; exact hm))
              have hsk2 := skipT_le (strB s) (k + (D.takeWhile digB).length) (by rw [strB_len]; omega)
              rw [strB_len] at hsk2
              have HSK2 := Lib.hid (fun W => rskip_any s (k + (D.takeWhile digB).length) W (by omega) hs)
              generalize skipT (strB s) (k + (D.takeWhile digB).length) = k2 at HN HSK2 hsk2
              generalize (D.takeWhile digB).length = n at HNU HN q3 q4 hpre HDA HDV HDS HSK2 hsk2
              obtain ⟨E, hE⟩ : ∃ E, E = k + n := ⟨_, rfl⟩
              rw [← hE] at HNU HN HSK2 hsk2
              have lE : ((E : Int) == 0) = false := beq_eq_false_iff_ne.2 (by omega)
              have m1 : (k : Int) ≤ (E : Int) := by omega
              have m2 : (E : Int) ≤ (s.size : Int) := by omega
              have m0 : (0 : Int) ≤ (E : Int) := by omega
              have hb0 := HINV.out.kept.size
              obtain ⟨x, hx⟩ : ∃ x, x = s.extract k E := ⟨_, rfl⟩
              rw [← hx] at HN
              have hkal := Kept.alloc (fun _ => False) wr (.cells #[.int .i64 2, .string x, .int .i64 0, .int .i64 k] 44)
              have HB0 : Hid (NumBox (wr.alloc (.cells #[.int .i64 2, .string x, .int .i64 0, .int .i64 k] 44)) (wr.alloc (.cells #[.int .i64 2, .string x, .int .i64 0, .int .i64 k] 44)) wr.heap.size x (valN (D.take 0)) k) :=
                ⟨by go_simp, by go_simp, by show _ = some (Value.int .i64 ((0 : Nat) : Int)); go_simp, by go_simp, by go_simp, by simp, Kept.refl _ _⟩
              have HKAL := Lib.hid hkal
              have hkE : k < E := by omega
              have HE := Lib.hid hE
              have HX := Lib.hid hx
              clear q1 q2 hlb hdb hD hDl hkal hE hx
              go_wp2_with fail
              refine (HLE.out _).mono ?_
              rintro e w1 ⟨rfl, rfl⟩
              go_wp2_with fail
              refine (HDI.out _).mono ?_
              rintro e w1 ⟨rfl, rfl⟩
              go_wp2_with fail
              refine (HNU.out _).mono ?_
              rintro e w1 ⟨rfl, rfl⟩
              go_wp2_with fail
              rw [← HX.out]
              obtain ⟨wo, hwo⟩ : ∃ wo : World, wo = wr := ⟨_, rfl⟩
              rw [← hwo] at HINV HOWN hbs hb0 HB0 HKAL ⊢
              generalize hw2 : wo.alloc (.cells #[.int .i64 2, .string x, .int .i64 0, .int .i64 k] 44) = w2 at HB0 HKAL ⊢
              have hbb : wo.heap.size < w2.heap.size := by rw [← hw2]; simp
              generalize hbx : wo.heap.size = bx at hbs hb0 hbb HB0 ⊢
              have HBX := Lib.hid hbx
              clear hw2 hbx hwo
              go_loopw [9] (fun iv wr => ∃ m : Nat, m ≤ n ∧ iv = .int .i64 (k + m : Nat) ∧ Hid (NumBox w2 wr bx x (valN (D.take m)) k)) (fun iv _ => E - (intOf iv).toNat)
              case atStart => exact ⟨0, by omega, rfl, HB0⟩
              case round =>
                obtain ⟨m, hm, rfl, hbox⟩ := hrel
                obtain ⟨j, hj⟩ : ∃ j, j = k + m := ⟨_, rfl⟩
                rw [← hj]
                have HJ := Lib.hid hj
                have j0 : (0 : Int) ≤ (j : Int) := by omega
                obtain ⟨c0, c1, c2, c3, f2, hblt, hbk⟩ := hbox.out
                by_cases hmt : m < n
                · have j1 : (j : Int) < (E : Int) := by have := HE.out; omega
                  have j2 : (j : Int) < (s.size : Int) := by omega
                  have ej := HAT.out j
                  have hda := HDA.out m hmt
                  have hdv := HDV.out m (by omega) (by omega)
                  have hds := HDS.out m (by omega)
                  rw [HDD.out m, ← hj] at hda hds
                  obtain ⟨d, hd⟩ : ∃ d, d = bat s j := ⟨_, rfl⟩
                  rw [← hd] at ej hda hds
                  generalize valN (D.take m) = v at c2 hbox hdv hds
                  have e1 : IntKind.u8.wrap ((d : Int) - 48) = ((d - 48 : Nat) : Int) := by rw [IntWalk.u8_in _ (by omega)]; omega
                  have HBX2 : Hid (NumBox w2 ((wr.setCell ⟨bx, 2, none⟩ (.int .i64 (10 * (v : Int) + ((d - 48 : Nat) : Int)))).drew) bx x (valN (D.take (m + 1))) k) := by
                    have h := (hbox.out.set (10 * v + (d - 48))).drew
                    have e : ((10 * v + (d - 48) : Nat) : Int) = 10 * (v : Int) + ((d - 48 : Nat) : Int) := by omega
                    rw [e] at h
                    rw [hds]; exact h
                  clear hd hbk hbox hds hj
                  go_wp2_with fail
                  go_still_tail 10, (by kernel_rfl)
                  change wpList _ _ _ _ _ wr.drew
                  replace c2 : wr.drew.cell? _ = _ := c2
                  replace f2 : wr.drew.frozen? _ = _ := f2
                  go_wp2_with fail
                  go_roundw
                  case rel => first | exact ⟨m + 1, by omega, by rw [show k + (m + 1) = j + 1 by have := HJ.out; omega]; go_num, HBX2⟩ | ((repeat apply Exists.intro); exact ⟨⟨m + 1, by omega, by rw [show k + (m + 1) = j + 1 by have := HJ.out; omega]; go_num, HBX2⟩, rfl⟩)
                  case measure => simp [intOf]; omega
                · obtain rfl : m = n := by omega
                  have j1 : ¬ (j : Int) < (E : Int) := by have := HE.out; omega
                  have HOWN2 := Lib.hid ((hbk.owns (HKAL.out.owns HOWN.out (fun _ _ h => h)) (fun i hi e => by have := (HOWN.out.lt i hi).2; have := HBX.out; omega)))
                  have KB : Hid (Kept (fun _ => False) w wr) := (HINV.out.kept.then HKAL.out).trans hbk (fun _ _ h => h) (fun i hi e => by have e : i = bx := e; omega)
                  have hbw : w.heap.size ≤ wr.heap.size := by omega
                  generalize valN (D.take m) = v at c2 hbox HN
                  clear f2 hbk hbox hj
                  have hb6 : w.heap.size ≤ (wr.alloc (.cells #[.int .i64 2, .string x, .int .i64 v, .int .i64 k] 44)).heap.size := by simp; omega
                  go_wp2_with (at_builtin; refine wpList_append_lies _ rfl _ _ _ rfl w.heap.size 44 i0 _ 4 40 Tryd.underlying42 hi hz0 hz1 hz2 rfl (by omega) (.slice la N lc) _ _ rfl (HOWN2.out.alloc _) ⟨wr.heap.size, 0, none⟩ 1 1 [.int .i64 2, .string x, .int .i64 v, .int .i64 k] rfl rfl (World.news_of_block (cs := #[.int .i64 2, .string x, .int .i64 v, .int .i64 k]) (t := 44) (fr := (0, 0)) (heap_alloc_new wr _)) (by simp [Value.oneCell']) (by omega) hm1 hm2 hb6 (wr.heap.size + 1) (by simp) ?_)
                  intro gg cap w7 hown7 hgrow hat hgl
                  have kp : Kept (blk (.slice la N lc)) wr w7 := (Kept.alloc (fun _ => False) wr (.cells #[.int .i64 2, .string x, .int .i64 v, .int .i64 k] 44)).trans (Kept.ofGrown (S := blk (.slice la N lc)) hgrow fun k e => e) (fun _ _ h => h.elim) (fun _ _ h => h)
                  have KF : Kept (fun _ => False) w w7 := KB.out.trans kp (fun _ _ h => h) (fun i hi e => by have := (HOWN2.out.lt _ e).1; omega)
                  have HIV : Hid (∃ ts, ScanInv .i64 44 s w w7 (.slice (some ⟨gg, 0, none⟩) (N + 1) cap) ts k2) := by
                    refine ⟨ts ++ [⟨2, x, (v : Nat), (k : Nat)⟩], OwnK.push ?_, ?_, HN.out, KF⟩
                    · rw [← HN0.out]; exact hown7
                    · rw [List.length_append, ← HN0.out]; show N + 1 ≤ k2; omega
                  clear hown7 hgrow hat hgl kp KF hb6
                  go_wp2_with fail
                  refine (HSK2.out _).mono ?_
                  rintro e w8 ⟨rfl, rfl⟩
                  go_wp2_with fail
                  go_roundw
                  case rel => first | exact ⟨k2, by omega, by go_num, HIV⟩ | ((repeat apply Exists.intro); exact ⟨⟨k2, by omega, by go_num, HIV⟩, rfl⟩)
                  case measure => simp [intOf]; omega
          | false =>
            rw [hdb] at HDI
            have HSY := Lib.hid (fun W => rsymbol_any s k W (by omega) hs)
            rcases nowT_sym hlt (by rw [← HC.out]; exact hlb) (by rw [← HC.out]; exact hdb) with ⟨q1, q2⟩ | ⟨q1, q2, q3⟩
            · rw [q1] at HSY
              have hr : R = ([], k, 8) := by
                rw [HR.out]
                exact scanS_bad h8 (HINV.out.at_.bad hlt (by rw [q2]))
              have K2 := Lib.hid HINV.out.kept
              clear HR q1 q2 hlb hdb
              subst hr
              go_wp2_with fail
              refine (HLE.out _).mono ?_
              rintro e w1 ⟨rfl, rfl⟩
              go_wp2_with fail
              refine (HDI.out _).mono ?_
              rintro e w1 ⟨rfl, rfl⟩
              go_wp2_with fail
              refine (HSY.out _).mono ?_
              rintro e w1 ⟨rfl, k1⟩
              have K3 := Lib.hid k1
              clear k1
              go_wp2_with fail
              go_ret3
              exact ⟨_, rfl, OwnK.nil _ _ _ _, (K2.out.then (Kept.alloc _ _ _)).then K3.out⟩
            · rw [q1] at HSY
              have HN := Lib.hid (HINV.out.at_.next hlt (by rw [q3]; exact Nat.succ_ne_zero 2))
              rw [q3] at HN
              unfold tokOf at HN
              simp only at HN
              have hpl := symN_le ((strB s).drop k)
              rw [List.length_drop, strB_len] at hpl
              generalize symN ((strB s).drop k) = n at HSY HN q2 hpl
              obtain ⟨E, hE⟩ : ∃ E, E = k + n := ⟨_, rfl⟩
              rw [← hE] at HSY HN
              have hsk2 := skipT_le (strB s) E (by rw [strB_len]; omega)
              rw [strB_len] at hsk2
              have HSK2 := Lib.hid (fun W => rskip_any s E W (by omega) hs)
              generalize skipT (strB s) E = k2 at HN HSK2 hsk2
              have lE : ((E : Int) == 0) = false := beq_eq_false_iff_ne.2 (by omega)
              have m1 : (k : Int) ≤ (E : Int) := by omega
              have m2 : (E : Int) ≤ (s.size : Int) := by omega
              have m0 : (0 : Int) ≤ (E : Int) := by omega
              obtain ⟨x, hx⟩ : ∃ x, x = s.extract k E := ⟨_, rfl⟩
              rw [← hx] at HN
              have HX := Lib.hid hx
              have hkE : k < E := by omega
              clear q1 q2 q3 hlb hdb hx hE
              go_wp2_with fail
              refine (HLE.out _).mono ?_
              rintro e w1 ⟨rfl, rfl⟩
              go_wp2_with fail
              refine (HDI.out _).mono ?_
              rintro e w1 ⟨rfl, rfl⟩
              go_wp2_with fail
              refine (HSY.out _).mono ?_
              rintro e w1 ⟨rfl, k1⟩
              obtain ⟨c0, c1, c2, c3, f0, f1, f2, f3, hblt⟩ := box4 k1
              have K1 := Lib.hid ((Kept.alloc (fun _ => False) wr (.cells #[.int .i64 3, .string ⟨#[]⟩, .int .i64 0, .int .i64 k] 44)).then k1)
              clear k1
              go_wp2_with fail
              rw [← HX.out]
              have HW : Hid (Kept (fun _ => False) wr (w1.setCell ⟨wr.heap.size, 1, none⟩ (.string x))) := K1.out.trans (Kept.setCell (fun i => i = wr.heap.size) w1 ⟨wr.heap.size, 1, none⟩ (.string x) rfl) (fun _ _ h => h) (fun i hi e => by have e : i = wr.heap.size := e; omega)
              have d0 : (w1.setCell ⟨wr.heap.size, 1, none⟩ (.string x)).cell? ⟨wr.heap.size, 0, none⟩ = some (.int .i64 3) := by go_simp
              have d1 : (w1.setCell ⟨wr.heap.size, 1, none⟩ (.string x)).cell? ⟨wr.heap.size, 1, none⟩ = some (.string x) := by go_simp
              have d2 : (w1.setCell ⟨wr.heap.size, 1, none⟩ (.string x)).cell? ⟨wr.heap.size, 2, none⟩ = some (.int .i64 0) := by go_simp
              have d3 : (w1.setCell ⟨wr.heap.size, 1, none⟩ (.string x)).cell? ⟨wr.heap.size, 3, none⟩ = some (.int .i64 k) := by go_simp
              have d4 : wr.heap.size < (w1.setCell ⟨wr.heap.size, 1, none⟩ (.string x)).heap.size := by simp; omega
              clear c0 c1 c2 c3 f0 f1 f2 f3 hblt
              generalize w1.setCell ⟨wr.heap.size, 1, none⟩ (.string x) = w2 at *
              have HOWN2 := Lib.hid (HW.out.owns HOWN.out (fun _ _ h => h))
              have KB : Hid (Kept (fun _ => False) w w2) := HINV.out.kept.then HW.out
              have hbw : w.heap.size ≤ w2.heap.size := KB.out.size
              go_loop [9] (fun iv => iv = .int .i64 k) (fun iv => 0)
              case atStart => rfl
              case round =>
                obtain rfl := hrel
                have hb6 : w.heap.size ≤ (w2.alloc (.cells #[.int .i64 3, .string x, .int .i64 0, .int .i64 k] 44)).heap.size := by simp; omega
                go_wp2_with (at_builtin; refine wpList_append_lies _ rfl _ _ _ rfl w.heap.size 44 i0 _ 4 40 Tryd.underlying42 hi hz0 hz1 hz2 rfl (by omega) (.slice la N lc) _ _ rfl (HOWN2.out.alloc _) ⟨w2.heap.size, 0, none⟩ 1 1 [.int .i64 3, .string x, .int .i64 0, .int .i64 k] rfl rfl (World.news_of_block (cs := #[.int .i64 3, .string x, .int .i64 0, .int .i64 k]) (t := 44) (fr := (0, 0)) (heap_alloc_new w2 _)) (by simp [Value.oneCell']) (by omega) hm1 hm2 hb6 (w2.heap.size + 1) (by simp) ?_)
                intro gg cap w7 hown7 hgrow hat hgl
                have kp : Kept (blk (.slice la N lc)) w2 w7 := (Kept.alloc (fun _ => False) w2 (.cells #[.int .i64 3, .string x, .int .i64 0, .int .i64 k] 44)).trans (Kept.ofGrown (S := blk (.slice la N lc)) hgrow fun k e => e) (fun _ _ h => h.elim) (fun _ _ h => h)
                have KF : Kept (fun _ => False) w w7 := KB.out.trans kp (fun _ _ h => h) (fun i hi e => by have := (HOWN2.out.lt _ e).1; omega)
                have HIV : Hid (∃ ts, ScanInv .i64 44 s w w7 (.slice (some ⟨gg, 0, none⟩) (N + 1) cap) ts k2) := by
                  refine ⟨ts ++ [⟨3, x, (0 : Nat), (k : Nat)⟩], OwnK.push ?_, ?_, HN.out, KF⟩
                  · rw [← HN0.out]; exact hown7
                  · rw [List.length_append, ← HN0.out]; show N + 1 ≤ k2; omega
                clear hown7 hgrow hat hgl kp KF hb6
                go_wp2_with fail
                refine (HSK2.out _).mono ?_
                rintro e w8 ⟨rfl, rfl⟩
                go_wp2_with fail
                go_roundw
                case rel => first | exact ⟨k2, by omega, by go_num, HIV⟩ | ((repeat apply Exists.intro); exact ⟨⟨k2, by omega, by go_num, HIV⟩, rfl⟩)
                case measure => simp [intOf]; omega
      · obtain rfl : k = s.size := by omega
        obtain ⟨d1, d2⟩ := HINV.out.at_.done hlt
        have hr : R = (ts ++ [endTok s], 0, 0) := by
          rw [HR.out, scanS_ok h8 d2, d1]
        clear HR d1 d2 hlt
        subst hr
        have hm1 : N + 1 ≤ maxLen := by unfold maxLen; omega
        have hm2 : (N + 1) * 40 ≤ 140737488355328 := by omega
        have hb6 : w.heap.size ≤ (wr.alloc (.cells #[.int .i64 0, .string ⟨#[]⟩, .int .i64 0, .int .i64 s.size] 44)).heap.size := by simp; omega
        go_wp2_with (at_builtin; refine wpList_append_lies _ rfl _ _ _ rfl w.heap.size 44 i0 _ 4 40 Tryd.underlying42 hi hz0 hz1 hz2 rfl (by omega) (.slice la N lc) _ _ rfl (HOWN.out.alloc _) ⟨wr.heap.size, 0, none⟩ 1 1 [.int .i64 0, .string ⟨#[]⟩, .int .i64 0, .int .i64 s.size] rfl rfl (World.news_of_block (cs := #[.int .i64 0, .string ⟨#[]⟩, .int .i64 0, .int .i64 s.size]) (t := 44) (fr := (0, 0)) (heap_alloc_new wr _)) (by simp [Value.oneCell']) (by omega) hm1 hm2 hb6 (wr.heap.size + 1) (by simp) ?_)
        intro gg cap w7 hown7 hgrow hat hgl
        have kp : Kept (blk (.slice la N lc)) wr w7 := (Kept.alloc (fun _ => False) wr (.cells #[.int .i64 0, .string ⟨#[]⟩, .int .i64 0, .int .i64 s.size] 44)).trans (Kept.ofGrown (S := blk (.slice la N lc)) hgrow fun k e => e) (fun _ _ h => h.elim) (fun _ _ h => h)
        have KF : Kept (fun _ => False) w w7 := HINV.out.kept.trans kp (fun _ _ h => h) (fun i hi e => by have := (HOWN.out.lt _ e).1; omega)
        have HE : Hid (OwnK .i64 44 w.heap.size w7 (.slice (some ⟨gg, 0, none⟩) (N + 1) cap) (ts ++ [endTok s]) ∧ Kept (fun _ => False) w w7) := by
          refine ⟨OwnK.push ?_, KF⟩
          rw [← HN0.out]; exact hown7
        clear hown7 hgrow hat hgl kp KF hm1 hm2 hb6
        go_wp2_with fail
        go_ret3
        exact ⟨_, rfl, HE.out⟩
end Go.Proofs.YthkjcgcfbodgbaaDoor
