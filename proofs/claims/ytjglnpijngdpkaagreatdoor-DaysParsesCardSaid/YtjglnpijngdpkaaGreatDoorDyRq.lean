/-
  arbacref05: number, span.
-/
import Derived.Test.YtjglnpijngdpkaaGreatDoorDyRt
import Derived.Test.YtjglnpijngdpkaaGreatDoorDyLy
import Derived.Test.YtjglnpijngdpkaaGreatDoorDyPs
namespace Go.Proofs.YtjglnpijngdpkaaGreatDoor
open Go.RowKit
set_option linter.unusedSimpArgs false
set_option linter.unusedVariables false
set_option maxRecDepth 100000

theorem byte_at (s : ByteArray) (k : Nat) (h : k < s.size) : s.data.toList[k]? = some s[k] := by
  have h2 : k < s.data.size := h
  rw [Array.getElem?_toList, Array.getElem?_eq_getElem h2]; rfl
theorem valD_step (s : ByteArray) (k : Nat) (h : k < s.size) : valD (s.data.toList.take (k + 1)) = 10 * valD (s.data.toList.take k) + (s[k].toNat - 48) := by
  rw [List.take_add_one, byte_at s k h]
  exact valD_snoc _ _

/-- What number answers. -/
def NumP (s : ByteArray) (w : World) (e : Ending) (w' : World) : Prop := ∃ (n : Int) (ok : Bool), e = .returned (.tuple #[.int .i64 n, .bool ok]) ∧ Kept (fun _ => False) w w' ∧
  ((ok = true ∧ 0 ≤ n ∧ n ≤ 30000 ∧ s.data.toList = Lib.itoa n) ∨ (ok = false ∧ ∀ m : Int, 0 ≤ m → m ≤ 30000 → s.data.toList ≠ Lib.itoa m))
set_option maxHeartbeats 3200000 in
theorem rnumD_any (s : ByteArray) (hs : s.size ≤ 1000000) (w : World) :
    Calls Tryz.prog 65 #[.string s] w fun e w' => NumP s w e w' := by
  have HSTEP := Lib.hid (valD_step s)
  have HBY := Lib.hid (byte_at s)
  go_enter Tryz.func65, Tryz.ntmps65
  go_wp2_with fail
  go_loop [4, 5] (fun nv iv => ∃ k n : Nat, k ≤ s.size ∧ iv = .int .i64 (k : Int) ∧ nv = .int .i64 (n : Int) ∧ n ≤ 300009 ∧ Hid (n = valD (s.data.toList.take k))) (fun _ iv => s.size - (intOf iv).toNat)
  case atStart => exact ⟨0, 0, Nat.zero_le _, rfl, rfl, by omega, Lib.hid rfl⟩
  case round =>
    obtain ⟨k, n, hk, rfl, rfl, hn, hval⟩ := hrel
    by_cases hlt : k < s.size
    · have l1 : (k : Int) < (s.size : Int) := by omega
      have l0 : (0 : Int) ≤ (k : Int) := by omega
      have hst := HSTEP.out k hlt
      have hby := HBY.out k hlt
      have hc256 : s[k].toNat < 256 := s[k].toNat_lt
      have HBAD : Hid (∀ m : Int, 0 ≤ m → m ≤ 30000 → s.data.toList = Lib.itoa m → 48 ≤ s[k].toNat ∧ s[k].toNat ≤ 57 ∧ n ≤ 30000) := Lib.hid fun m h0 h1 e => by
        have hm : s[k] ∈ Lib.itoa m := by rw [← e]; exact List.mem_of_getElem? hby
        have h2 := itoa_byteD h0 _ hm
        have h3 := valD_take h0 e k
        rw [← hval.out] at h3
        exact ⟨h2.1, h2.2.1, by omega⟩
      have HNX : Hid (10 * n + (s[k].toNat - 48) = valD (s.data.toList.take (k + 1))) := Lib.hid (by rw [hst, ← hval.out])
      clear hst hby hval
      by_cases hA : (s[k].toNat : Int) < 48
      · have hAb : decide ((s[k].toNat : Int) < 48) = true := decide_eq_true hA
        have HN : Hid (∀ m : Int, 0 ≤ m → m ≤ 30000 → s.data.toList ≠ Lib.itoa m) := Lib.hid fun m h0 h1 e => by have := HBAD.out m h0 h1 e; omega
        go_wp2_with fail
        go_ret2
        exact ⟨0, false, rfl, Kept.refl _ _, Or.inr ⟨rfl, HN.out⟩⟩
      · by_cases hB : (57 : Int) < (s[k].toNat : Int)
        · have hBb : decide ((57 : Int) < (s[k].toNat : Int)) = true := decide_eq_true hB
          have hAb : decide ((s[k].toNat : Int) < 48) = false := decide_eq_false hA
          have HN : Hid (∀ m : Int, 0 ≤ m → m ≤ 30000 → s.data.toList ≠ Lib.itoa m) := Lib.hid fun m h0 h1 e => by have := HBAD.out m h0 h1 e; omega
          go_wp2_with fail
          go_ret2
          exact ⟨0, false, rfl, Kept.refl _ _, Or.inr ⟨rfl, HN.out⟩⟩
        · have hAb : decide ((s[k].toNat : Int) < 48) = false := decide_eq_false hA
          have hBb : decide ((57 : Int) < (s[k].toNat : Int)) = false := decide_eq_false hB
          by_cases hC : (30000 : Int) < (n : Int)
          · have hCb : decide ((30000 : Int) < (n : Int)) = true := decide_eq_true hC
            have HN : Hid (∀ m : Int, 0 ≤ m → m ≤ 30000 → s.data.toList ≠ Lib.itoa m) := Lib.hid fun m h0 h1 e => by have := HBAD.out m h0 h1 e; omega
            go_wp2_with fail
            go_ret2
            exact ⟨0, false, rfl, Kept.refl _ _, Or.inr ⟨rfl, HN.out⟩⟩
          · have hCb : decide ((30000 : Int) < (n : Int)) = false := decide_eq_false hC
            obtain ⟨d, hd⟩ : ∃ d, d = s[k].toNat - 48 := ⟨_, rfl⟩
            have w1 : IntKind.i64.wrap (10 * (n : Int)) = 10 * (n : Int) := IntWalk.i64_in _ (by omega)
            have w2 : IntKind.u8.wrap ((s[k].toNat : Int) - 48) = (d : Int) := by rw [IntWalk.u8_in _ (by omega)]; omega
            have w3 : IntKind.i64.wrap (d : Int) = (d : Int) := IntWalk.i64_in _ (by omega)
            have w4 : IntKind.i64.wrap (10 * (n : Int) + (d : Int)) = ((10 * n + d : Nat) : Int) := by rw [IntWalk.i64_in _ (by omega)]; omega
            rw [← hd] at HNX
            have hd10 : d ≤ 9 := by omega
            have HNB : Hid (10 * n + d ≤ 300009) := Lib.hid (by omega)
            clear hd
            go_wp2_with fail
            go_round
            case rel => exact ⟨k + 1, 10 * n + d, by omega, by go_num, by first | rfl | trivial, HNB.out, HNX⟩
            case measure => simp [intOf]; omega
    · obtain rfl : k = s.size := by omega
      have hfull : Hid (n = valD s.data.toList) := Lib.hid (by rw [hval.out]; show valD (s.data.toList.take s.data.toList.length) = _; rw [List.take_length])
      clear hval
      by_cases hC : (n : Int) ≤ 30000
      · have hCb : decide ((n : Int) ≤ 30000) = true := decide_eq_true hC
        have HD := Lib.hid (fun W => digitsD_any n n (Nat.le_refl _) (by omega) W)
        by_cases heq : strD (Lib.decDigits n) = s
        · have HE : Hid (s.data.toList = Lib.itoa (n : Int)) := Lib.hid (by rw [← heq, Lib.itoa_nonneg]; rfl)
          rw [heq] at HD
          clear heq
          go_wp2_with fail
          refine (HD.out _).mono ?_
          rintro e w1 ⟨rfl, k1⟩
          have K1 := Lib.hid k1
          clear k1
          go_wp2_with fail
          go_ret2
          exact ⟨_, _, rfl, K1.out, Or.inl ⟨rfl, by omega, by omega, HE.out⟩⟩
        · obtain ⟨T, hT⟩ : ∃ T, T = strD (Lib.decDigits n) := ⟨_, rfl⟩
          have hb1 : (s.toList == T.toList) = false := by
            rw [beq_eq_false_iff_ne, ByteArray.toList_eq, ByteArray.toList_eq, hT]
            intro e
            exact heq (by
              obtain ⟨⟨l⟩⟩ := s
              have e2 : l = Lib.decDigits n := e
              rw [e2]; rfl)
          have HN : Hid (∀ m : Int, 0 ≤ m → m ≤ 30000 → s.data.toList ≠ Lib.itoa m) := Lib.hid fun m h0 h1 e => by
            have h2 := valD_itoa h0
            rw [← e, ← hfull.out] at h2
            rw [← h2, Lib.itoa_nonneg] at e
            exact heq (by
              obtain ⟨⟨l⟩⟩ := s
              have e2 : l = Lib.decDigits n := e
              rw [e2]; rfl)
          rw [← hT] at HD
          clear heq hT
          go_wp2_with fail
          refine (HD.out _).mono ?_
          rintro e w1 ⟨rfl, k1⟩
          have K1 := Lib.hid k1
          clear k1
          go_wp2_with fail
          go_ret2
          exact ⟨_, _, rfl, K1.out, Or.inr ⟨rfl, HN.out⟩⟩
      · have hCb : decide ((n : Int) ≤ 30000) = false := decide_eq_false hC
        have HN : Hid (∀ m : Int, 0 ≤ m → m ≤ 30000 → s.data.toList ≠ Lib.itoa m) := Lib.hid fun m h0 h1 e => by
          have h2 := valD_itoa h0
          rw [← e, ← hfull.out] at h2
          omega
        go_wp2_with fail
        go_ret2
        exact ⟨_, _, rfl, Kept.refl _ _, Or.inr ⟨rfl, HN.out⟩⟩
/-- What span answers. -/
def SpanP (s : ByteArray) (w : World) (e : Ending) (w' : World) : Prop := ∃ (x y : Int) (ok : Bool), e = .returned (.tuple #[.agg #[.int .i64 x, .int .i64 y], .bool ok]) ∧ Kept (fun _ => False) w w' ∧
  ((ok = true ∧ okSp (x, y) ∧ ∀ p, okSp p → s.data.toList = spanT p → p = (x, y)) ∨ (ok = false ∧ ∀ p, okSp p → s.data.toList ≠ spanT p))
theorem itoa_30 {a b : Int} (ha : 0 ≤ a) (ha2 : a ≤ 30000) (hb : 0 ≤ b) (hb2 : b ≤ 30000) (h : Lib.itoa a = Lib.itoa b) : a = b := itoa_injD ha (by omega) hb (by omega) h
set_option maxHeartbeats 6400000 in
theorem rspanD_any (s : ByteArray) (hs : s.size ≤ 1000000) (w : World) :
    Calls Tryz.prog 42 #[.string s] w fun e w' => SpanP s w e w' := by
  have HK0 := Lib.hid (Kept.refl (fun _ => False) (w.alloc (.cells #[.int .i64 0, .int .i64 0] 62)))
  obtain ⟨c0, c1, f0, f1⟩ := old2D HK0.out
  have HBY := Lib.hid (byte_at s)
  go_enter Tryz.func42, Tryz.ntmps42
  go_wp2_with fail
  go_loop [4] (fun iv => ∃ k : Nat, k ≤ s.size ∧ iv = .int .i64 (k : Int) ∧ Hid ((45 : UInt8) ∉ s.data.toList.take k)) (fun iv => s.size - (intOf iv).toNat)
  case atStart => exact ⟨0, Nat.zero_le _, rfl, Lib.hid (by simp)⟩
  case round =>
    obtain ⟨k, hk, rfl, hno⟩ := hrel
    by_cases hlt : k < s.size
    · have l1 : (k : Int) < (s.size : Int) := by omega
      have l0 : (0 : Int) ≤ (k : Int) := by omega
      have hby := HBY.out k hlt
      by_cases hd : s[k] = 45
      · have hdn : (s[k].toNat : Int) = 45 := by rw [hd]; rfl
        have hcut : s.data.toList = s.data.toList.take k ++ 45 :: s.data.toList.drop (k + 1) := by
          obtain ⟨hl, he⟩ := List.getElem?_eq_some_iff.1 hby
          have e2 := List.drop_eq_getElem_cons hl
          rw [he, hd] at e2
          rw [← e2, List.take_append_drop]
        have HCUT : Hid (∀ p, okSp p → s.data.toList = spanT p → s.data.toList.take k = Lib.itoa p.1 ∧ p.1 ≠ p.2 ∧ (s.data.toList.drop (k + 1) = [] → p.2 = 30000) ∧ (s.data.toList.drop (k + 1) ≠ [] → s.data.toList.drop (k + 1) = Lib.itoa p.2)) := Lib.hid fun p hp e => spanT_cut hp hno.out (hcut.symm.trans e)
        have hks : (k : Int) ≤ (s.size : Int) := by omega
        have HN1 := Lib.hid (fun W => rnumD_any (s.extract 0 k) (by rw [ByteArray.size_extract]; omega) W)
        have HF := Lib.hid (extract_front s k); have HBK := Lib.hid (extract_back s (k + 1))
        have hdb : decide ((s[k].toNat : Int) = 45) = true := decide_eq_true hdn
        clear hby hd hcut hno
        go_wp2_with fail
        refine (HN1.out _).mono ?_
        rintro e w1 ⟨a, ok1, rfl, k1, hc1⟩
        have K1 := Lib.hid k1
        clear k1
        obtain ⟨c0, c1, f0, f1⟩ := old2D K1.out
        rcases hc1 with ⟨rfl, a0, a1, ha⟩ | ⟨rfl, ha⟩
        · rw [HF.out] at ha
          have HA := Lib.hid ha
          clear ha
          have hw : IntKind.i64.wrap ((k : Int) + 1) = (k : Int) + 1 := IntWalk.i64_in _ (by omega)
          by_cases hend : k + 1 < s.size
          · have he1 : (k : Int) + 1 < (s.size : Int) := by omega
            have he2 : (0 : Int) ≤ (k : Int) + 1 := by omega
            have he3 : (k : Int) + 1 ≤ (s.size : Int) := by omega
            have hn1 : ((k : Int) + 1).toNat = k + 1 := by omega
            have HN2 := Lib.hid (fun W => rnumD_any (s.extract (k + 1) s.size) (by rw [ByteArray.size_extract]; omega) W)
            have HNE : Hid (s.data.toList.drop (k + 1) ≠ []) := Lib.hid fun e => by
              have e2 := congrArg List.length e
              rw [List.length_drop] at e2
              have e3 : s.data.toList.length = s.size := rfl
              simp at e2; omega
            clear hend
            go_wp2_with fail
            refine (HN2.out _).mono ?_
            rintro e w2 ⟨b, ok2, rfl, k2, hc2⟩
            have K2 := Lib.hid (K1.out.then k2)
            clear k2
            obtain ⟨c0, c1, f0, f1⟩ := old2D K2.out
            rcases hc2 with ⟨rfl, b0, b1, hb⟩ | ⟨rfl, hb⟩
            · rw [HBK.out] at hb
              have HB := Lib.hid hb
              clear hb
              by_cases hab : a ≤ b
              · have habb : decide (a ≤ b) = true := decide_eq_true hab
                have HP : Hid (okSp (a, b) ∧ ∀ p, okSp p → s.data.toList = spanT p → p = (a, b)) := Lib.hid ⟨⟨a0, hab, b1⟩, fun p hp e => by
                  obtain ⟨q1, q2, q3, q4⟩ := HCUT.out p hp e
                  obtain ⟨px, py⟩ := p
                  obtain ⟨z0, z1, z2⟩ := hp
                  simp only at z0 z1 z2 q1 q4
                  rw [itoa_30 z0 (by omega) a0 a1 (q1.symm.trans HA.out), itoa_30 (by omega) z2 b0 b1 ((q4 HNE.out).symm.trans HB.out)]⟩
                obtain ⟨p1, p2, p3⟩ := put2D K2.out (.int .i64 a) (.int .i64 b)
                have P1 := Lib.hid p1
                clear p1
                go_wp2_with fail
                refine bodyPost_ret (v := .tuple #[.agg #[.int .i64 a, .int .i64 b], .bool true]) (by simp [results, Tryz.results42, go_sem, p2, p3]) rfl ⟨_, _, _, rfl, P1.out, Or.inl ⟨rfl, HP.out⟩⟩
              · have habb : decide (a ≤ b) = false := decide_eq_false hab
                have HP : Hid (∀ p, okSp p → s.data.toList ≠ spanT p) := Lib.hid fun p hp e => by
                  obtain ⟨q1, q2, q3, q4⟩ := HCUT.out p hp e
                  obtain ⟨px, py⟩ := p
                  obtain ⟨z0, z1, z2⟩ := hp
                  simp only at z0 z1 z2 q1 q4
                  have e1 := itoa_30 z0 (by omega) a0 a1 (q1.symm.trans HA.out)
                  have e2 := itoa_30 (by omega) z2 b0 b1 ((q4 HNE.out).symm.trans HB.out)
                  omega
                obtain ⟨p1, p2, p3⟩ := put2D K2.out (.int .i64 a) (.int .i64 b)
                have P1 := Lib.hid p1
                clear p1
                go_wp2_with fail
                refine bodyPost_ret (v := .tuple #[.agg #[.int .i64 a, .int .i64 b], .bool false]) (by simp [results, Tryz.results42, go_sem, p2, p3]) rfl ⟨_, _, _, rfl, P1.out, Or.inr ⟨rfl, HP.out⟩⟩
            · rw [HBK.out] at hb
              have HP : Hid (∀ p, okSp p → s.data.toList ≠ spanT p) := Lib.hid fun p hp e => by
                obtain ⟨q1, q2, q3, q4⟩ := HCUT.out p hp e
                exact hb p.2 (by have := hp.1; have := hp.2.1; omega) hp.2.2 (q4 HNE.out)
              clear hb
              obtain ⟨p1, p2, p3⟩ := put2D K2.out (.int .i64 a) (.int .i64 b)
              have P1 := Lib.hid p1
              clear p1
              go_wp2_with fail
              refine bodyPost_ret (v := .tuple #[.agg #[.int .i64 a, .int .i64 b], .bool false]) (by simp [results, Tryz.results42, go_sem, p2, p3]) rfl ⟨_, _, _, rfl, P1.out, Or.inr ⟨rfl, HP.out⟩⟩
          · have he1 : ¬ (k : Int) + 1 < (s.size : Int) := by omega
            have HE : Hid (s.data.toList.drop (k + 1) = []) := Lib.hid (List.drop_eq_nil_of_le (by have e3 : s.data.toList.length = s.size := rfl; omega))
            have habb : decide (a ≤ 30000) = true := decide_eq_true a1
            have HP : Hid (okSp (a, 30000) ∧ ∀ p, okSp p → s.data.toList = spanT p → p = (a, 30000)) := Lib.hid ⟨⟨a0, a1, Int.le_refl _⟩, fun p hp e => by
              obtain ⟨q1, q2, q3, q4⟩ := HCUT.out p hp e
              obtain ⟨px, py⟩ := p
              obtain ⟨z0, z1, z2⟩ := hp
              simp only at z0 z1 z2 q1 q3
              rw [itoa_30 z0 (by omega) a0 a1 (q1.symm.trans HA.out), q3 HE.out]⟩
            obtain ⟨p1, p2, p3⟩ := put2D K1.out (.int .i64 a) (.int .i64 30000)
            have P1 := Lib.hid p1
            clear p1
            go_wp2_with fail
            refine bodyPost_ret (v := .tuple #[.agg #[.int .i64 a, .int .i64 30000], .bool true]) (by simp [results, Tryz.results42, go_sem, p2, p3]) rfl ⟨_, _, _, rfl, P1.out, Or.inl ⟨rfl, HP.out⟩⟩
        · rw [HF.out] at ha
          have HP : Hid (∀ p, okSp p → s.data.toList ≠ spanT p) := Lib.hid fun p hp e => by
            obtain ⟨q1, q2, q3, q4⟩ := HCUT.out p hp e
            exact ha p.1 hp.1 (by have := hp.2.1; have := hp.2.2; omega) q1
          clear ha
          have hw : IntKind.i64.wrap ((k : Int) + 1) = (k : Int) + 1 := IntWalk.i64_in _ (by omega)
          by_cases hend : k + 1 < s.size
          · have he1 : (k : Int) + 1 < (s.size : Int) := by omega
            have he2 : (0 : Int) ≤ (k : Int) + 1 := by omega
            have he3 : (k : Int) + 1 ≤ (s.size : Int) := by omega
            have hn1 : ((k : Int) + 1).toNat = k + 1 := by omega
            have HN2 := Lib.hid (fun W => rnumD_any (s.extract (k + 1) s.size) (by rw [ByteArray.size_extract]; omega) W)
            clear hend
            go_wp2_with fail
            refine (HN2.out _).mono ?_
            rintro e w2 ⟨b, ok2, rfl, k2, hc2⟩
            have K2 := Lib.hid (K1.out.then k2)
            clear k2 hc2
            obtain ⟨c0, c1, f0, f1⟩ := old2D K2.out
            obtain ⟨p1, p2, p3⟩ := put2D K2.out (.int .i64 a) (.int .i64 b)
            have P1 := Lib.hid p1
            clear p1
            go_wp2_with fail
            refine bodyPost_ret (v := .tuple #[.agg #[.int .i64 a, .int .i64 b], .bool false]) (by simp [results, Tryz.results42, go_sem, p2, p3]) rfl ⟨_, _, _, rfl, P1.out, Or.inr ⟨rfl, HP.out⟩⟩
          · have he1 : ¬ (k : Int) + 1 < (s.size : Int) := by omega
            obtain ⟨p1, p2, p3⟩ := put2D K1.out (.int .i64 a) (.int .i64 30000)
            have P1 := Lib.hid p1
            clear p1
            go_wp2_with fail
            refine bodyPost_ret (v := .tuple #[.agg #[.int .i64 a, .int .i64 30000], .bool false]) (by simp [results, Tryz.results42, go_sem, p2, p3]) rfl ⟨_, _, _, rfl, P1.out, Or.inr ⟨rfl, HP.out⟩⟩
      · have hdn : ¬ (s[k].toNat : Int) = 45 := fun e => hd (by
          have : s[k].toNat = (45 : UInt8).toNat := by rw [show (45 : UInt8).toNat = 45 from rfl]; omega
          exact UInt8.toNat_inj.1 this)
        have hdb : ((s[k].toNat : Int) == 45) = false := by rw [beq_eq_false_iff_ne]; exact hdn
        have HNX : Hid ((45 : UInt8) ∉ s.data.toList.take (k + 1)) := Lib.hid (by
          rw [List.take_add_one, hby]
          intro hm
          rcases List.mem_append.1 hm with h | h
          · exact hno.out h
          · simp at h; exact hd h.symm)
        clear hby hd hno
        go_wp2_with fail
        go_round
        case rel => exact ⟨k + 1, by omega, by go_num, HNX⟩
        case measure => simp [intOf]; omega
    · obtain rfl : k = s.size := by omega
      have HFULL : Hid ((45 : UInt8) ∉ s.data.toList) := Lib.hid (by
        have := hno.out
        rwa [show s.data.toList.take s.size = s.data.toList from List.take_length] at this)
      have HN1 := Lib.hid (fun W => rnumD_any s hs W)
      clear hno
      go_wp2_with fail
      refine (HN1.out _).mono ?_
      rintro e w1 ⟨a, ok1, rfl, k1, hc1⟩
      have K1 := Lib.hid k1
      clear k1
      obtain ⟨c0, c1, f0, f1⟩ := old2D K1.out
      rcases hc1 with ⟨rfl, a0, a1, ha⟩ | ⟨rfl, ha⟩
      · have HP : Hid (okSp (a, a) ∧ ∀ p, okSp p → s.data.toList = spanT p → p = (a, a)) := Lib.hid ⟨⟨a0, Int.le_refl _, a1⟩, fun p hp e => by
          obtain ⟨q1, q2⟩ := spanT_plain hp HFULL.out e
          obtain ⟨px, py⟩ := p
          obtain ⟨z0, z1, z2⟩ := hp
          simp only at z0 z1 z2 q1 q2
          have e1 := itoa_30 z0 (by omega) a0 a1 (q2.symm.trans ha)
          rw [← q1, e1]⟩
        clear ha
        obtain ⟨p1, p2, p3⟩ := put2D K1.out (.int .i64 a) (.int .i64 a)
        have P1 := Lib.hid p1
        clear p1
        go_wp2_with fail
        refine bodyPost_ret (v := .tuple #[.agg #[.int .i64 a, .int .i64 a], .bool true]) (by simp [results, Tryz.results42, go_sem, p2, p3]) rfl ⟨_, _, _, rfl, P1.out, Or.inl ⟨rfl, HP.out⟩⟩
      · have HP : Hid (∀ p, okSp p → s.data.toList ≠ spanT p) := Lib.hid fun p hp e => by
          obtain ⟨q1, q2⟩ := spanT_plain hp HFULL.out e
          exact ha p.1 hp.1 (by have := hp.2.1; have := hp.2.2; omega) q2
        clear ha
        obtain ⟨p1, p2, p3⟩ := put2D K1.out (.int .i64 a) (.int .i64 a)
        have P1 := Lib.hid p1
        clear p1
        go_wp2_with fail
        refine bodyPost_ret (v := .tuple #[.agg #[.int .i64 a, .int .i64 a], .bool false]) (by simp [results, Tryz.results42, go_sem, p2, p3]) rfl ⟨_, _, _, rfl, P1.out, Or.inr ⟨rfl, HP.out⟩⟩
end Go.Proofs.YtjglnpijngdpkaaGreatDoor
