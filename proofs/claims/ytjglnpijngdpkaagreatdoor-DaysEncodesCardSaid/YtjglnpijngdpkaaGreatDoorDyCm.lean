import Derived.Test.YtjglnpijngdpkaaGreatDoorDyC
import Derived.Deep.RegionWith
/-
  Days: two sets combined (Minus).
-/
namespace Go.Proofs.YtjglnpijngdpkaaGreatDoor
open Go.RowKit
set_option linter.unusedSimpArgs false
set_option linter.unusedVariables false
set_option maxRecDepth 100000

theorem keepMinus_any (x y : Bool) (w : World) : Calls Tryz.prog 78 #[.bool x, .bool y] w fun e w' => e = .returned (.bool (fMinus x y)) ∧ w = w' := by
  cases x <;> cases y <;>
  · go_enter Tryz.func78, Tryz.ntmps78
    go_wp2_with fail
    go_ret
    exact ⟨rfl, rfl⟩

set_option maxHeartbeats 6400000 in
theorem combMinus_any (s o : Value) (t u : List Int) (w0 : World) (hs : SetD w0 s t) (ho : SetD w0 o u) :
    Calls Tryz.prog 77 #[s, o, .func (.func 78) #[] #[]] w0 fun e w' => ∃ v r, e = .returned v ∧ SetD w' v r ∧ (∀ d, inD r d = fMinus (inD t d) (inD u d)) ∧ Kept (fun _ => False) w0 w' := by
  have hT0 := (fun i W (hk : Kept (fun _ => False) w0 W) => turnD_any s t i W (hs.on hk))
  have hT1 := (fun i W (hk : Kept (fun _ => False) w0 W) => turnD_any o u i W (ho.on hk))
  have HCT := Lib.hid hs.can; have HCU := Lib.hid ho.can
  have hNb := hs.can.len; have hMb := ho.can.len
  obtain ⟨sv, rfl, hr0, _⟩ := hs
  obtain ⟨ov, rfl, hr1, _⟩ := ho
  obtain ⟨sa, sc, rfl, s1, s2⟩ := hr0.form
  obtain ⟨oa, oc, rfl, o1, o2⟩ := hr1.form
  obtain ⟨N, hN⟩ : ∃ N, N = t.length := ⟨_, rfl⟩
  obtain ⟨M, hM⟩ : ∃ M, M = u.length := ⟨_, rfl⟩
  rw [← hN] at hT0 hNb ⊢
  rw [← hM] at hT1 hMb ⊢
  have HN := Lib.hid hN; have HM := Lib.hid hM
  unfold maxLen at s2 o2
  have ka := Kept.alloc (fun _ => False) w0 (.cells #[.slice sa N sc] 26)
  have kb := ka.then (Kept.alloc (fun _ => False) _ (.cells #[.slice oa M oc] 26))
  have kc := kb.then (Kept.alloc (fun _ => False) _ (.cells #[.slice none 0 0] 26))
  have HKA := Lib.hid kc
  have HT0 := Lib.hid (fun i W (hk : Kept (fun _ => False) (((w0.alloc (.cells #[.slice sa N sc] 26)).alloc (.cells #[.slice oa M oc] 26)).alloc (.cells #[.slice none 0 0] 26)) W) => hT0 i W (kc.then hk))
  have HT1 := Lib.hid (fun i W (hk : Kept (fun _ => False) (((w0.alloc (.cells #[.slice sa N sc] 26)).alloc (.cells #[.slice oa M oc] 26)).alloc (.cells #[.slice none 0 0] 26)) W) => hT1 i W (kc.then hk))
  have HCS : Hid (((((w0.alloc (.cells #[.slice sa N sc] 26)).alloc (.cells #[.slice oa M oc] 26)).alloc (.cells #[.slice none 0 0] 26)).cell? ⟨w0.heap.size, 0, none⟩ = some (.slice sa N sc)) ∧ ((((w0.alloc (.cells #[.slice sa N sc] 26)).alloc (.cells #[.slice oa M oc] 26)).alloc (.cells #[.slice none 0 0] 26)).cell? ⟨w0.heap.size + 1, 0, none⟩ = some (.slice oa M oc)) ∧
      ((((w0.alloc (.cells #[.slice sa N sc] 26)).alloc (.cells #[.slice oa M oc] 26)).alloc (.cells #[.slice none 0 0] 26)).cell? ⟨w0.heap.size + 1 + 1, 0, none⟩ = some (.slice none 0 0)) ∧ ((((w0.alloc (.cells #[.slice sa N sc] 26)).alloc (.cells #[.slice oa M oc] 26)).alloc (.cells #[.slice none 0 0] 26)).frozen? ⟨w0.heap.size + 1 + 1, 0, none⟩ = false)) := Lib.hid ⟨by go_simp, by go_simp, by go_simp, by go_simp⟩
  have HI0 : Hid (CbInv fMinus (((w0.alloc (.cells #[.slice sa N sc] 26)).alloc (.cells #[.slice oa M oc] 26)).alloc (.cells #[.slice none 0 0] 26)) (((w0.alloc (.cells #[.slice sa N sc] 26)).alloc (.cells #[.slice oa M oc] 26)).alloc (.cells #[.slice none 0 0] 26)) (.slice none 0 0) [] t u 0 0 0) := Lib.hid ⟨OwnG.nil _ _ _, CmbI.start rfl HCT.out HCU.out, Kept.refl _ _⟩
  clear hr0 hr1 s1 o1 hN hM ka kb kc hT0 hT1
  go_enter Tryz.func77, Tryz.ntmps77
  go_wp2_with fail
  generalize ((w0.alloc (.cells #[.slice sa N sc] 26)).alloc (.cells #[.slice oa M oc] 26)).alloc (.cells #[.slice none 0 0] 26) = w at *
  obtain ⟨Q, hQ⟩ : ∃ Q, Q = w0.heap.size := ⟨_, rfl⟩
  rw [← hQ] at HCS ⊢
  have HQ0 := Lib.hid hQ
  clear hQ
  have HS : Hid (∀ W, Kept (fun _ => False) w W → W.cell? ⟨Q, 0, none⟩ = some (.slice sa N sc) ∧ W.cell? ⟨Q + 1, 0, none⟩ = some (.slice oa M oc) ∧ W.cell? ⟨Q + 1 + 1, 0, none⟩ = some (.slice none 0 0)) := Lib.hid fun W hk => by
    obtain ⟨a0, a1, a2, _⟩ := HCS.out
    exact ⟨(hk.cell (World.block_lt_of_cell? w _ a0) (fun h => h)).trans a0, (hk.cell (World.block_lt_of_cell? w _ a1) (fun h => h)).trans a1, (hk.cell (World.block_lt_of_cell? w _ a2) (fun h => h)).trans a2⟩
  have HFZ : Hid (∀ W, Kept (fun _ => False) w W → W.frozen? ⟨Q + 1 + 1, 0, none⟩ = false) := Lib.hid fun W hk => by
    obtain ⟨_, _, a2, a3⟩ := HCS.out
    rw [← a3]
    unfold World.frozen?
    rw [hk.block _ (World.block_lt_of_cell? w _ a2) (fun h => h)]
  go_loopw [7, 8, 9, 10] (fun av iv jv _ wr => ∃ (i j : Nat) (a : Option Addr) (c : Nat) (acc : List Int) (p : Int), i ≤ N ∧ j ≤ M ∧ iv = .int .i64 (i : Int) ∧ jv = .int .i64 (j : Int) ∧ av = .slice a acc.length c ∧ Hid (CbInv fMinus w wr (.slice a acc.length c) acc t u i j p)) (fun _ iv jv _ _ => N + M - ((intOf iv).toNat + (intOf jv).toNat))
  case atStart => exact ⟨0, 0, none, 0, [], 0, Nat.zero_le _, Nat.zero_le _, rfl, rfl, rfl, HI0⟩
  case round =>
    obtain ⟨i, j, a, c, acc, p, hi, hj, rfl, rfl, rfl, hI⟩ := hrel
    clear HI0
    have HKW := Lib.hid hI.out.kept
    have hal : acc.length ≤ 60004 := by have := hI.out.inv.len; omega
    by_cases hlt : i < N ∨ j < M
    · obtain ⟨d, i', j', hd, hi', hj', hst, hsum, hin, hjn⟩ := cb_round HCT.out HCU.out hI.out.inv (by rw [← HN.out, ← HM.out]; exact hlt)
      rw [← HN.out] at hin
      rw [← HM.out] at hjn
      have HROW := Lib.hid hI.out.row
      have HIJ : Hid ((i < N → (i : Int) < (N : Int)) ∧ (¬ i < N → ¬ (i : Int) < (N : Int) ∧ (j : Int) < (M : Int) ∧ turnD t i = 30002 ∧ turnD u j ≤ 30001) ∧ (turnD t i ≠ 30002 → i < N)) := Lib.hid ⟨fun h => by omega, fun h => ⟨by omega, by have := hlt.resolve_left h; omega, turnD_end (by rw [← HN.out]; omega), HCU.out.top _ (List.mem_of_mem_drop (turnD_lt (by rw [← HM.out]; exact hlt.resolve_left h)).1)⟩, fun h => by
        by_cases q : i < N
        · exact q
        · exact absurd (turnD_end (by rw [← HN.out]; omega)) h⟩
      have hAt : turnD t i ≤ 30002 := by
        by_cases q : i < N
        · have := HCT.out.top _ (List.mem_of_mem_drop (turnD_lt (t := t) (i := i) (by rw [← HN.out]; exact q)).1); omega
        · rw [turnD_end (by rw [← HN.out]; omega)]; omega
      have hBt : turnD u j ≤ 30002 := by
        by_cases q : j < M
        · have := HCU.out.top _ (List.mem_of_mem_drop (turnD_lt (t := u) (i := j) (by rw [← HM.out]; exact q)).1); omega
        · rw [turnD_end (by rw [← HM.out]; omega)]; omega
      have HT0i := Lib.hid (HT0.out i)
      have HT1j := Lib.hid (HT1.out j)
      clear hI
      generalize hA : turnD t i = A at *
      generalize hB : turnD u j = Bv at *
      have hmm : Hid (d = min A Bv) := Lib.hid hd
      rcases (by omega : A < Bv ∨ A = Bv ∨ (Bv < A ∧ i < N) ∨ (Bv < A ∧ ¬ i < N)) with hc | hc | ⟨hc, hiN⟩ | ⟨hc, hiN⟩
      · have hmin : min A Bv = A := by omega
        have l1 := HIJ.out.1 (HIJ.out.2.2 (by omega))
        have l2 : ¬ Bv < A := by omega
        have l3 : ¬ Bv = A := by omega
        have l4 : (Bv == A) = false := by simpa using l3
        obtain rfl : d = A := by omega
        rw [if_pos rfl] at hi'
        rw [if_neg l3] at hj'
        rw [hi', hj'] at hst hsum
        rw [hi'] at hin
        rw [hj'] at hjn
        clear hi' hj'
        clear hd hmm hAt hBt hA hB hlt HIJ
        have HI1 := Lib.hid (fun W => insideD_at ((i : Int) + 1) (i + 1) (by omega) W)
        have HJ1 := Lib.hid (fun W => insideD_at ((j : Int)) (j) (by omega) W)
        have HKF := Lib.hid (fun W => keepMinus_any (oddD (i + 1)) (oddD (j)) W)
        have HLE := Lib.hid (fun W => insideD_at ((acc.length : Nat) : Int) acc.length rfl W)
        obtain ⟨FB, hfb⟩ : ∃ FB, FB = fMinus (oddD (i + 1)) (oddD (j)) := ⟨_, rfl⟩
        obtain ⟨OB, hob⟩ : ∃ OB, OB = oddD acc.length := ⟨_, rfl⟩
        rw [← hfb] at HKF hst
        rw [← hob] at HLE hst
        have HST := Lib.hid hst
        generalize oddD (i + 1) = XI at *
        generalize oddD (j) = XJ at *
        clear hst hfb hob
        obtain ⟨c0, c1, c2⟩ := HS.out _ HKW.out
        go_wp2_with fail
        go_region_held3 (fun W => W.cell? ⟨Q, 0, none⟩ = some (.slice sa N sc) ∧ W.cell? ⟨Q + 1, 0, none⟩ = some (.slice oa M oc) ∧ W.cell? ⟨Q + 1 + 1, 0, none⟩ = some (.slice none 0 0))
          (first | exact HS.out _ (HKW.out.then KC.out) | exact HS.out _ (HKW.out.then (Kept.refl _ _)) | exact HS.out _ (HKW.out.then (Kept.refl _ _).drew))
          ((first | (go_at_call 100; with_reducible refine (HT0i.out _ (HKW.out.then (by first | exact KC.out | exact Kept.refl _ _ | exact (Kept.refl _ _).drew))).mono ?_; rintro e q1 ⟨rfl, j1⟩; have KD := Lib.hid (Kept.then (show Kept (fun _ => False) wr _ from (by first | exact KC.out | exact Kept.refl _ _ | exact (Kept.refl _ _).drew)) j1); (try clear KC); have KC := KD; clear KD; clear j1) | (go_at_call 100; with_reducible refine (HT1j.out _ (HKW.out.then (by first | exact KC.out | exact Kept.refl _ _ | exact (Kept.refl _ _).drew))).mono ?_; rintro e q1 ⟨rfl, j1⟩; have KD := Lib.hid (Kept.then (show Kept (fun _ => False) wr _ from (by first | exact KC.out | exact Kept.refl _ _ | exact (Kept.refl _ _).drew)) j1); (try clear KC); have KC := KD; clear KD; clear j1)))
        have KR := KC
        have KE := Lib.hid (HKW.out.then KC.out)
        clear KC
        have KC := KE
        clear KE c0 c1 c2
        obtain ⟨c0, c1, c2⟩ := HS.out _ KC.out
        have hcs : (FB = OB ∧ CmbI fMinus t u acc (i + 1) (j) (d + 1)) ∨ ((FB == OB) = false ∧ (FB != OB) = true ∧ CmbI fMinus t u (acc ++ [d]) (i + 1) (j) (d + 1)) := by
          have h := HST.out
          revert h
          cases FB <;> cases OB <;> simp
        rcases hcs with ⟨rfl, hnew⟩ | ⟨q1, q2, hnew⟩
        · have HI2 : Hid (∀ W, Kept (fun _ => False) w W → Kept (fun _ => False) wr W → CbInv fMinus w W (.slice a acc.length c) acc t u (i + 1) (j) (d + 1)) := Lib.hid fun W h1 h2 => ⟨HROW.out.on h2, hnew, h1⟩
          clear hnew HST
          go_wp2_with (first
            | (go_at_call 100; with_reducible refine (HT0i.out _ KC.out).mono ?_; rintro e q2 ⟨rfl, j1⟩; have KD := Lib.hid (KC.out.then j1); clear KC; have KC := KD; clear KD; have KD := Lib.hid (KR.out.then j1); clear KR; have KR := KD; clear KD j1 c0 c1 c2; obtain ⟨c0, c1, c2⟩ := HS.out _ KC.out)
            | (go_at_call 100; with_reducible refine (HT1j.out _ KC.out).mono ?_; rintro e q2 ⟨rfl, j1⟩; have KD := Lib.hid (KC.out.then j1); clear KC; have KC := KD; clear KD; have KD := Lib.hid (KR.out.then j1); clear KR; have KR := KD; clear KD j1 c0 c1 c2; obtain ⟨c0, c1, c2⟩ := HS.out _ KC.out)
            | (go_at_call 59; with_reducible refine (HI1.out _).mono ?_; rintro e q2 ⟨rfl, rfl⟩)
            | (go_at_call 59; with_reducible refine (HJ1.out _).mono ?_; rintro e q2 ⟨rfl, rfl⟩)
            | (go_at_call 59; with_reducible refine (HLE.out _).mono ?_; rintro e q2 ⟨rfl, rfl⟩)
            | (go_at_call 78; with_reducible refine (HKF.out _).mono ?_; rintro e q2 ⟨rfl, rfl⟩)
            | fail)
          go_roundw
          case rel => exact ⟨i + 1, j, a, c, acc, d + 1, hin, hjn, by go_num, by go_num, rfl, HI2.out _ KC.out KR.out⟩
          case measure => simp [intOf]; omega
        · clear HST
          have HNW := Lib.hid hnew
          clear hnew
          go_wp2_with (first
            | (go_at_call 100; with_reducible refine (HT0i.out _ KC.out).mono ?_; rintro e q2 ⟨rfl, j1⟩; have KD := Lib.hid (KC.out.then j1); clear KC; have KC := KD; clear KD; have KD := Lib.hid (KR.out.then j1); clear KR; have KR := KD; clear KD j1 c0 c1 c2; obtain ⟨c0, c1, c2⟩ := HS.out _ KC.out)
            | (go_at_call 100; with_reducible refine (HT1j.out _ KC.out).mono ?_; rintro e q2 ⟨rfl, j1⟩; have KD := Lib.hid (KC.out.then j1); clear KC; have KC := KD; clear KD; have KD := Lib.hid (KR.out.then j1); clear KR; have KR := KD; clear KD j1 c0 c1 c2; obtain ⟨c0, c1, c2⟩ := HS.out _ KC.out)
            | (go_at_call 59; with_reducible refine (HI1.out _).mono ?_; rintro e q2 ⟨rfl, rfl⟩)
            | (go_at_call 59; with_reducible refine (HJ1.out _).mono ?_; rintro e q2 ⟨rfl, rfl⟩)
            | (go_at_call 59; with_reducible refine (HLE.out _).mono ?_; rintro e q2 ⟨rfl, rfl⟩)
            | (go_at_call 78; with_reducible refine (HKF.out _).mono ?_; rintro e q2 ⟨rfl, rfl⟩)
            | (at_builtin; refine wpList_pushG Tryz.underlying24 info_intD rfl (by omega) (by simp [Region.wanted, yielded]) _ _ rfl rfl w.heap.size _ _ acc [d] rfl rfl ((HROW.out.on KR.out).alloc _) (oneEI _ d) (by simp; omega) (by have := KC.out.size; simp; omega) ?_; intro a' c' w4 hown4 hk4 hat4; have HOWN4 := Lib.hid hown4; have HKK4 := Lib.hid hk4; clear hown4 hk4 hat4)
            | fail)
          have HI2 : Hid (CbInv fMinus w w4 (.slice a' (acc ++ [d]).length c') (acc ++ [d]) t u (i + 1) (j) (d + 1)) := Lib.hid ⟨HOWN4.out, HNW.out, (KC.out.then (Kept.alloc _ _ _)).trans HKK4.out (fun _ _ h => h) (fun k hk e => by have := (HROW.out.lt k e).1; omega)⟩
          go_roundw
          case rel => exact ⟨i + 1, j, a', c', acc ++ [d], d + 1, hin, hjn, by go_num, by go_num, by rw [List.length_append]; rfl, HI2⟩
          case measure => simp [intOf]; omega
      · subst hc
        have hmin : min A A = A := by omega
        by_cases hiN : i < N
        · have l1 := HIJ.out.1 hiN
          obtain rfl : d = A := by omega
          rw [if_pos rfl] at hi'
          rw [if_pos rfl] at hj'
          rw [hi', hj'] at hst hsum
          rw [hi'] at hin
          rw [hj'] at hjn
          clear hi' hj'
          clear hd hmm hAt hBt hA hB hlt HIJ
          have HI1 := Lib.hid (fun W => insideD_at ((i : Int) + 1) (i + 1) (by omega) W)
          have HJ1 := Lib.hid (fun W => insideD_at ((j : Int) + 1) (j + 1) (by omega) W)
          have HKF := Lib.hid (fun W => keepMinus_any (oddD (i + 1)) (oddD (j + 1)) W)
          have HLE := Lib.hid (fun W => insideD_at ((acc.length : Nat) : Int) acc.length rfl W)
          obtain ⟨FB, hfb⟩ : ∃ FB, FB = fMinus (oddD (i + 1)) (oddD (j + 1)) := ⟨_, rfl⟩
          obtain ⟨OB, hob⟩ : ∃ OB, OB = oddD acc.length := ⟨_, rfl⟩
          rw [← hfb] at HKF hst
          rw [← hob] at HLE hst
          have HST := Lib.hid hst
          generalize oddD (i + 1) = XI at *
          generalize oddD (j + 1) = XJ at *
          clear hst hfb hob
          obtain ⟨c0, c1, c2⟩ := HS.out _ HKW.out
          go_wp2_with fail
          go_region_held3 (fun W => W.cell? ⟨Q, 0, none⟩ = some (.slice sa N sc) ∧ W.cell? ⟨Q + 1, 0, none⟩ = some (.slice oa M oc) ∧ W.cell? ⟨Q + 1 + 1, 0, none⟩ = some (.slice none 0 0))
            (first | exact HS.out _ (HKW.out.then KC.out) | exact HS.out _ (HKW.out.then (Kept.refl _ _)) | exact HS.out _ (HKW.out.then (Kept.refl _ _).drew))
            ((first | (go_at_call 100; with_reducible refine (HT0i.out _ (HKW.out.then (by first | exact KC.out | exact Kept.refl _ _ | exact (Kept.refl _ _).drew))).mono ?_; rintro e q1 ⟨rfl, j1⟩; have KD := Lib.hid (Kept.then (show Kept (fun _ => False) wr _ from (by first | exact KC.out | exact Kept.refl _ _ | exact (Kept.refl _ _).drew)) j1); (try clear KC); have KC := KD; clear KD; clear j1) | (go_at_call 100; with_reducible refine (HT1j.out _ (HKW.out.then (by first | exact KC.out | exact Kept.refl _ _ | exact (Kept.refl _ _).drew))).mono ?_; rintro e q1 ⟨rfl, j1⟩; have KD := Lib.hid (Kept.then (show Kept (fun _ => False) wr _ from (by first | exact KC.out | exact Kept.refl _ _ | exact (Kept.refl _ _).drew)) j1); (try clear KC); have KC := KD; clear KD; clear j1)))
          have KR := KC
          have KE := Lib.hid (HKW.out.then KC.out)
          clear KC
          have KC := KE
          clear KE c0 c1 c2
          obtain ⟨c0, c1, c2⟩ := HS.out _ KC.out
          have hcs : (FB = OB ∧ CmbI fMinus t u acc (i + 1) (j + 1) (d + 1)) ∨ ((FB == OB) = false ∧ (FB != OB) = true ∧ CmbI fMinus t u (acc ++ [d]) (i + 1) (j + 1) (d + 1)) := by
            have h := HST.out
            revert h
            cases FB <;> cases OB <;> simp
          rcases hcs with ⟨rfl, hnew⟩ | ⟨q1, q2, hnew⟩
          · have HI2 : Hid (∀ W, Kept (fun _ => False) w W → Kept (fun _ => False) wr W → CbInv fMinus w W (.slice a acc.length c) acc t u (i + 1) (j + 1) (d + 1)) := Lib.hid fun W h1 h2 => ⟨HROW.out.on h2, hnew, h1⟩
            clear hnew HST
            go_wp2_with (first
              | (go_at_call 100; with_reducible refine (HT0i.out _ KC.out).mono ?_; rintro e q2 ⟨rfl, j1⟩; have KD := Lib.hid (KC.out.then j1); clear KC; have KC := KD; clear KD; have KD := Lib.hid (KR.out.then j1); clear KR; have KR := KD; clear KD j1 c0 c1 c2; obtain ⟨c0, c1, c2⟩ := HS.out _ KC.out)
              | (go_at_call 100; with_reducible refine (HT1j.out _ KC.out).mono ?_; rintro e q2 ⟨rfl, j1⟩; have KD := Lib.hid (KC.out.then j1); clear KC; have KC := KD; clear KD; have KD := Lib.hid (KR.out.then j1); clear KR; have KR := KD; clear KD j1 c0 c1 c2; obtain ⟨c0, c1, c2⟩ := HS.out _ KC.out)
              | (go_at_call 59; with_reducible refine (HI1.out _).mono ?_; rintro e q2 ⟨rfl, rfl⟩)
              | (go_at_call 59; with_reducible refine (HJ1.out _).mono ?_; rintro e q2 ⟨rfl, rfl⟩)
              | (go_at_call 59; with_reducible refine (HLE.out _).mono ?_; rintro e q2 ⟨rfl, rfl⟩)
              | (go_at_call 78; with_reducible refine (HKF.out _).mono ?_; rintro e q2 ⟨rfl, rfl⟩)
              | fail)
            go_roundw
            case rel => exact ⟨i + 1, j + 1, a, c, acc, d + 1, hin, hjn, by go_num, by go_num, rfl, HI2.out _ KC.out KR.out⟩
            case measure => simp [intOf]; omega
          · clear HST
            have HNW := Lib.hid hnew
            clear hnew
            go_wp2_with (first
              | (go_at_call 100; with_reducible refine (HT0i.out _ KC.out).mono ?_; rintro e q2 ⟨rfl, j1⟩; have KD := Lib.hid (KC.out.then j1); clear KC; have KC := KD; clear KD; have KD := Lib.hid (KR.out.then j1); clear KR; have KR := KD; clear KD j1 c0 c1 c2; obtain ⟨c0, c1, c2⟩ := HS.out _ KC.out)
              | (go_at_call 100; with_reducible refine (HT1j.out _ KC.out).mono ?_; rintro e q2 ⟨rfl, j1⟩; have KD := Lib.hid (KC.out.then j1); clear KC; have KC := KD; clear KD; have KD := Lib.hid (KR.out.then j1); clear KR; have KR := KD; clear KD j1 c0 c1 c2; obtain ⟨c0, c1, c2⟩ := HS.out _ KC.out)
              | (go_at_call 59; with_reducible refine (HI1.out _).mono ?_; rintro e q2 ⟨rfl, rfl⟩)
              | (go_at_call 59; with_reducible refine (HJ1.out _).mono ?_; rintro e q2 ⟨rfl, rfl⟩)
              | (go_at_call 59; with_reducible refine (HLE.out _).mono ?_; rintro e q2 ⟨rfl, rfl⟩)
              | (go_at_call 78; with_reducible refine (HKF.out _).mono ?_; rintro e q2 ⟨rfl, rfl⟩)
              | (at_builtin; refine wpList_pushG Tryz.underlying24 info_intD rfl (by omega) (by simp [Region.wanted, yielded]) _ _ rfl rfl w.heap.size _ _ acc [d] rfl rfl ((HROW.out.on KR.out).alloc _) (oneEI _ d) (by simp; omega) (by have := KC.out.size; simp; omega) ?_; intro a' c' w4 hown4 hk4 hat4; have HOWN4 := Lib.hid hown4; have HKK4 := Lib.hid hk4; clear hown4 hk4 hat4)
              | fail)
            have HI2 : Hid (CbInv fMinus w w4 (.slice a' (acc ++ [d]).length c') (acc ++ [d]) t u (i + 1) (j + 1) (d + 1)) := Lib.hid ⟨HOWN4.out, HNW.out, (KC.out.then (Kept.alloc _ _ _)).trans HKK4.out (fun _ _ h => h) (fun k hk e => by have := (HROW.out.lt k e).1; omega)⟩
            go_roundw
            case rel => exact ⟨i + 1, j + 1, a', c', acc ++ [d], d + 1, hin, hjn, by go_num, by go_num, by rw [List.length_append]; rfl, HI2⟩
            case measure => simp [intOf]; omega
        · exfalso
          have := HIJ.out.2.1 hiN
          omega
      · have hmin : min A Bv = Bv := by omega
        have l1 := HIJ.out.1 hiN
        have l2 : ¬ A ≤ Bv := by omega
        have l3 : ¬ A = Bv := by omega
        have l4 : (A == Bv) = false := by simpa using l3
        obtain rfl : d = Bv := by omega
        rw [if_neg l3] at hi'
        rw [if_pos rfl] at hj'
        rw [hi', hj'] at hst hsum
        rw [hi'] at hin
        rw [hj'] at hjn
        clear hi' hj'
        clear hd hmm hAt hBt hA hB hlt HIJ
        have HI1 := Lib.hid (fun W => insideD_at ((i : Int)) (i) (by omega) W)
        have HJ1 := Lib.hid (fun W => insideD_at ((j : Int) + 1) (j + 1) (by omega) W)
        have HKF := Lib.hid (fun W => keepMinus_any (oddD (i)) (oddD (j + 1)) W)
        have HLE := Lib.hid (fun W => insideD_at ((acc.length : Nat) : Int) acc.length rfl W)
        obtain ⟨FB, hfb⟩ : ∃ FB, FB = fMinus (oddD (i)) (oddD (j + 1)) := ⟨_, rfl⟩
        obtain ⟨OB, hob⟩ : ∃ OB, OB = oddD acc.length := ⟨_, rfl⟩
        rw [← hfb] at HKF hst
        rw [← hob] at HLE hst
        have HST := Lib.hid hst
        generalize oddD (i) = XI at *
        generalize oddD (j + 1) = XJ at *
        clear hst hfb hob
        obtain ⟨c0, c1, c2⟩ := HS.out _ HKW.out
        go_wp2_with fail
        go_region_held3 (fun W => W.cell? ⟨Q, 0, none⟩ = some (.slice sa N sc) ∧ W.cell? ⟨Q + 1, 0, none⟩ = some (.slice oa M oc) ∧ W.cell? ⟨Q + 1 + 1, 0, none⟩ = some (.slice none 0 0))
          (first | exact HS.out _ (HKW.out.then KC.out) | exact HS.out _ (HKW.out.then (Kept.refl _ _)) | exact HS.out _ (HKW.out.then (Kept.refl _ _).drew))
          ((first | (go_at_call 100; with_reducible refine (HT0i.out _ (HKW.out.then (by first | exact KC.out | exact Kept.refl _ _ | exact (Kept.refl _ _).drew))).mono ?_; rintro e q1 ⟨rfl, j1⟩; have KD := Lib.hid (Kept.then (show Kept (fun _ => False) wr _ from (by first | exact KC.out | exact Kept.refl _ _ | exact (Kept.refl _ _).drew)) j1); (try clear KC); have KC := KD; clear KD; clear j1) | (go_at_call 100; with_reducible refine (HT1j.out _ (HKW.out.then (by first | exact KC.out | exact Kept.refl _ _ | exact (Kept.refl _ _).drew))).mono ?_; rintro e q1 ⟨rfl, j1⟩; have KD := Lib.hid (Kept.then (show Kept (fun _ => False) wr _ from (by first | exact KC.out | exact Kept.refl _ _ | exact (Kept.refl _ _).drew)) j1); (try clear KC); have KC := KD; clear KD; clear j1)))
        have KR := KC
        have KE := Lib.hid (HKW.out.then KC.out)
        clear KC
        have KC := KE
        clear KE c0 c1 c2
        obtain ⟨c0, c1, c2⟩ := HS.out _ KC.out
        have hcs : (FB = OB ∧ CmbI fMinus t u acc (i) (j + 1) (d + 1)) ∨ ((FB == OB) = false ∧ (FB != OB) = true ∧ CmbI fMinus t u (acc ++ [d]) (i) (j + 1) (d + 1)) := by
          have h := HST.out
          revert h
          cases FB <;> cases OB <;> simp
        rcases hcs with ⟨rfl, hnew⟩ | ⟨q1, q2, hnew⟩
        · have HI2 : Hid (∀ W, Kept (fun _ => False) w W → Kept (fun _ => False) wr W → CbInv fMinus w W (.slice a acc.length c) acc t u (i) (j + 1) (d + 1)) := Lib.hid fun W h1 h2 => ⟨HROW.out.on h2, hnew, h1⟩
          clear hnew HST
          go_wp2_with (first
            | (go_at_call 100; with_reducible refine (HT0i.out _ KC.out).mono ?_; rintro e q2 ⟨rfl, j1⟩; have KD := Lib.hid (KC.out.then j1); clear KC; have KC := KD; clear KD; have KD := Lib.hid (KR.out.then j1); clear KR; have KR := KD; clear KD j1 c0 c1 c2; obtain ⟨c0, c1, c2⟩ := HS.out _ KC.out)
            | (go_at_call 100; with_reducible refine (HT1j.out _ KC.out).mono ?_; rintro e q2 ⟨rfl, j1⟩; have KD := Lib.hid (KC.out.then j1); clear KC; have KC := KD; clear KD; have KD := Lib.hid (KR.out.then j1); clear KR; have KR := KD; clear KD j1 c0 c1 c2; obtain ⟨c0, c1, c2⟩ := HS.out _ KC.out)
            | (go_at_call 59; with_reducible refine (HI1.out _).mono ?_; rintro e q2 ⟨rfl, rfl⟩)
            | (go_at_call 59; with_reducible refine (HJ1.out _).mono ?_; rintro e q2 ⟨rfl, rfl⟩)
            | (go_at_call 59; with_reducible refine (HLE.out _).mono ?_; rintro e q2 ⟨rfl, rfl⟩)
            | (go_at_call 78; with_reducible refine (HKF.out _).mono ?_; rintro e q2 ⟨rfl, rfl⟩)
            | fail)
          go_roundw
          case rel => exact ⟨i, j + 1, a, c, acc, d + 1, hin, hjn, by go_num, by go_num, rfl, HI2.out _ KC.out KR.out⟩
          case measure => simp [intOf]; omega
        · clear HST
          have HNW := Lib.hid hnew
          clear hnew
          go_wp2_with (first
            | (go_at_call 100; with_reducible refine (HT0i.out _ KC.out).mono ?_; rintro e q2 ⟨rfl, j1⟩; have KD := Lib.hid (KC.out.then j1); clear KC; have KC := KD; clear KD; have KD := Lib.hid (KR.out.then j1); clear KR; have KR := KD; clear KD j1 c0 c1 c2; obtain ⟨c0, c1, c2⟩ := HS.out _ KC.out)
            | (go_at_call 100; with_reducible refine (HT1j.out _ KC.out).mono ?_; rintro e q2 ⟨rfl, j1⟩; have KD := Lib.hid (KC.out.then j1); clear KC; have KC := KD; clear KD; have KD := Lib.hid (KR.out.then j1); clear KR; have KR := KD; clear KD j1 c0 c1 c2; obtain ⟨c0, c1, c2⟩ := HS.out _ KC.out)
            | (go_at_call 59; with_reducible refine (HI1.out _).mono ?_; rintro e q2 ⟨rfl, rfl⟩)
            | (go_at_call 59; with_reducible refine (HJ1.out _).mono ?_; rintro e q2 ⟨rfl, rfl⟩)
            | (go_at_call 59; with_reducible refine (HLE.out _).mono ?_; rintro e q2 ⟨rfl, rfl⟩)
            | (go_at_call 78; with_reducible refine (HKF.out _).mono ?_; rintro e q2 ⟨rfl, rfl⟩)
            | (at_builtin; refine wpList_pushG Tryz.underlying24 info_intD rfl (by omega) (by simp [Region.wanted, yielded]) _ _ rfl rfl w.heap.size _ _ acc [d] rfl rfl ((HROW.out.on KR.out).alloc _) (oneEI _ d) (by simp; omega) (by have := KC.out.size; simp; omega) ?_; intro a' c' w4 hown4 hk4 hat4; have HOWN4 := Lib.hid hown4; have HKK4 := Lib.hid hk4; clear hown4 hk4 hat4)
            | fail)
          have HI2 : Hid (CbInv fMinus w w4 (.slice a' (acc ++ [d]).length c') (acc ++ [d]) t u (i) (j + 1) (d + 1)) := Lib.hid ⟨HOWN4.out, HNW.out, (KC.out.then (Kept.alloc _ _ _)).trans HKK4.out (fun _ _ h => h) (fun k hk e => by have := (HROW.out.lt k e).1; omega)⟩
          go_roundw
          case rel => exact ⟨i, j + 1, a', c', acc ++ [d], d + 1, hin, hjn, by go_num, by go_num, by rw [List.length_append]; rfl, HI2⟩
          case measure => simp [intOf]; omega
      · have hmin : min A Bv = Bv := by omega
        obtain ⟨l1, l1b, _, _⟩ := HIJ.out.2.1 hiN
        have l2 : ¬ A ≤ Bv := by omega
        have l3 : ¬ A = Bv := by omega
        have l4 : (A == Bv) = false := by simpa using l3
        obtain rfl : d = Bv := by omega
        rw [if_neg l3] at hi'
        rw [if_pos rfl] at hj'
        rw [hi', hj'] at hst hsum
        rw [hi'] at hin
        rw [hj'] at hjn
        clear hi' hj'
        clear hd hmm hAt hBt hA hB hlt HIJ
        have HI1 := Lib.hid (fun W => insideD_at ((i : Int)) (i) (by omega) W)
        have HJ1 := Lib.hid (fun W => insideD_at ((j : Int) + 1) (j + 1) (by omega) W)
        have HKF := Lib.hid (fun W => keepMinus_any (oddD (i)) (oddD (j + 1)) W)
        have HLE := Lib.hid (fun W => insideD_at ((acc.length : Nat) : Int) acc.length rfl W)
        obtain ⟨FB, hfb⟩ : ∃ FB, FB = fMinus (oddD (i)) (oddD (j + 1)) := ⟨_, rfl⟩
        obtain ⟨OB, hob⟩ : ∃ OB, OB = oddD acc.length := ⟨_, rfl⟩
        rw [← hfb] at HKF hst
        rw [← hob] at HLE hst
        have HST := Lib.hid hst
        generalize oddD (i) = XI at *
        generalize oddD (j + 1) = XJ at *
        clear hst hfb hob
        obtain ⟨c0, c1, c2⟩ := HS.out _ HKW.out
        go_wp2_with fail
        go_region_held3 (fun W => W.cell? ⟨Q, 0, none⟩ = some (.slice sa N sc) ∧ W.cell? ⟨Q + 1, 0, none⟩ = some (.slice oa M oc) ∧ W.cell? ⟨Q + 1 + 1, 0, none⟩ = some (.slice none 0 0))
          (first | exact HS.out _ (HKW.out.then KC.out) | exact HS.out _ (HKW.out.then (Kept.refl _ _)) | exact HS.out _ (HKW.out.then (Kept.refl _ _).drew))
          ((first | (go_at_call 100; with_reducible refine (HT0i.out _ (HKW.out.then (by first | exact KC.out | exact Kept.refl _ _ | exact (Kept.refl _ _).drew))).mono ?_; rintro e q1 ⟨rfl, j1⟩; have KD := Lib.hid (Kept.then (show Kept (fun _ => False) wr _ from (by first | exact KC.out | exact Kept.refl _ _ | exact (Kept.refl _ _).drew)) j1); (try clear KC); have KC := KD; clear KD; clear j1) | (go_at_call 100; with_reducible refine (HT1j.out _ (HKW.out.then (by first | exact KC.out | exact Kept.refl _ _ | exact (Kept.refl _ _).drew))).mono ?_; rintro e q1 ⟨rfl, j1⟩; have KD := Lib.hid (Kept.then (show Kept (fun _ => False) wr _ from (by first | exact KC.out | exact Kept.refl _ _ | exact (Kept.refl _ _).drew)) j1); (try clear KC); have KC := KD; clear KD; clear j1)))
        have KR := KC
        have KE := Lib.hid (HKW.out.then KC.out)
        clear KC
        have KC := KE
        clear KE c0 c1 c2
        obtain ⟨c0, c1, c2⟩ := HS.out _ KC.out
        have hcs : (FB = OB ∧ CmbI fMinus t u acc (i) (j + 1) (d + 1)) ∨ ((FB == OB) = false ∧ (FB != OB) = true ∧ CmbI fMinus t u (acc ++ [d]) (i) (j + 1) (d + 1)) := by
          have h := HST.out
          revert h
          cases FB <;> cases OB <;> simp
        rcases hcs with ⟨rfl, hnew⟩ | ⟨q1, q2, hnew⟩
        · have HI2 : Hid (∀ W, Kept (fun _ => False) w W → Kept (fun _ => False) wr W → CbInv fMinus w W (.slice a acc.length c) acc t u (i) (j + 1) (d + 1)) := Lib.hid fun W h1 h2 => ⟨HROW.out.on h2, hnew, h1⟩
          clear hnew HST
          go_wp2_with (first
            | (go_at_call 100; with_reducible refine (HT0i.out _ KC.out).mono ?_; rintro e q2 ⟨rfl, j1⟩; have KD := Lib.hid (KC.out.then j1); clear KC; have KC := KD; clear KD; have KD := Lib.hid (KR.out.then j1); clear KR; have KR := KD; clear KD j1 c0 c1 c2; obtain ⟨c0, c1, c2⟩ := HS.out _ KC.out)
            | (go_at_call 100; with_reducible refine (HT1j.out _ KC.out).mono ?_; rintro e q2 ⟨rfl, j1⟩; have KD := Lib.hid (KC.out.then j1); clear KC; have KC := KD; clear KD; have KD := Lib.hid (KR.out.then j1); clear KR; have KR := KD; clear KD j1 c0 c1 c2; obtain ⟨c0, c1, c2⟩ := HS.out _ KC.out)
            | (go_at_call 59; with_reducible refine (HI1.out _).mono ?_; rintro e q2 ⟨rfl, rfl⟩)
            | (go_at_call 59; with_reducible refine (HJ1.out _).mono ?_; rintro e q2 ⟨rfl, rfl⟩)
            | (go_at_call 59; with_reducible refine (HLE.out _).mono ?_; rintro e q2 ⟨rfl, rfl⟩)
            | (go_at_call 78; with_reducible refine (HKF.out _).mono ?_; rintro e q2 ⟨rfl, rfl⟩)
            | fail)
          go_roundw
          case rel => exact ⟨i, j + 1, a, c, acc, d + 1, hin, hjn, by go_num, by go_num, rfl, HI2.out _ KC.out KR.out⟩
          case measure => simp [intOf]; omega
        · clear HST
          have HNW := Lib.hid hnew
          clear hnew
          go_wp2_with (first
            | (go_at_call 100; with_reducible refine (HT0i.out _ KC.out).mono ?_; rintro e q2 ⟨rfl, j1⟩; have KD := Lib.hid (KC.out.then j1); clear KC; have KC := KD; clear KD; have KD := Lib.hid (KR.out.then j1); clear KR; have KR := KD; clear KD j1 c0 c1 c2; obtain ⟨c0, c1, c2⟩ := HS.out _ KC.out)
            | (go_at_call 100; with_reducible refine (HT1j.out _ KC.out).mono ?_; rintro e q2 ⟨rfl, j1⟩; have KD := Lib.hid (KC.out.then j1); clear KC; have KC := KD; clear KD; have KD := Lib.hid (KR.out.then j1); clear KR; have KR := KD; clear KD j1 c0 c1 c2; obtain ⟨c0, c1, c2⟩ := HS.out _ KC.out)
            | (go_at_call 59; with_reducible refine (HI1.out _).mono ?_; rintro e q2 ⟨rfl, rfl⟩)
            | (go_at_call 59; with_reducible refine (HJ1.out _).mono ?_; rintro e q2 ⟨rfl, rfl⟩)
            | (go_at_call 59; with_reducible refine (HLE.out _).mono ?_; rintro e q2 ⟨rfl, rfl⟩)
            | (go_at_call 78; with_reducible refine (HKF.out _).mono ?_; rintro e q2 ⟨rfl, rfl⟩)
            | (at_builtin; refine wpList_pushG Tryz.underlying24 info_intD rfl (by omega) (by simp [Region.wanted, yielded]) _ _ rfl rfl w.heap.size _ _ acc [d] rfl rfl ((HROW.out.on KR.out).alloc _) (oneEI _ d) (by simp; omega) (by have := KC.out.size; simp; omega) ?_; intro a' c' w4 hown4 hk4 hat4; have HOWN4 := Lib.hid hown4; have HKK4 := Lib.hid hk4; clear hown4 hk4 hat4)
            | fail)
          have HI2 : Hid (CbInv fMinus w w4 (.slice a' (acc ++ [d]).length c') (acc ++ [d]) t u (i) (j + 1) (d + 1)) := Lib.hid ⟨HOWN4.out, HNW.out, (KC.out.then (Kept.alloc _ _ _)).trans HKK4.out (fun _ _ h => h) (fun k hk e => by have := (HROW.out.lt k e).1; omega)⟩
          go_roundw
          case rel => exact ⟨i, j + 1, a', c', acc ++ [d], d + 1, hin, hjn, by go_num, by go_num, by rw [List.length_append]; rfl, HI2⟩
          case measure => simp [intOf]; omega
    · have ei : ¬ (i : Int) < (N : Int) := by omega
      have ej : ¬ (j : Int) < (M : Int) := by omega
      obtain ⟨g1, g2⟩ := CmbI.done rfl HCT.out HCU.out hI.out.inv (by rw [← HN.out]; omega) (by rw [← HM.out]; omega)
      have HRES : Hid (∀ W, Kept (fun _ => False) wr W → RowG EI W (.slice a acc.length c) acc) := Lib.hid fun W hk => hI.out.row.row.on hk
      have G1 := Lib.hid g1; have G2 := Lib.hid g2
      obtain ⟨c0, c1, c2⟩ := HS.out _ HKW.out
      have f2 : wr.frozen? ⟨Q + 1 + 1, 0, none⟩ = false := HFZ.out wr HKW.out
      have hlow : Hid (∀ k, (Value.slice a acc.length c).ownBlock = some k → k ≠ Q + 1 + 1) := Lib.hid fun k hk e => by
        have h1 := (hI.out.row.lt k hk).1
        have h2 := World.block_lt_of_cell? w _ (HS.out w (Kept.refl _ _)).2.2
        simp only at h2
        omega
      have HEND : Hid (RowG EI (wr.setCell ⟨Q + 1 + 1, 0, none⟩ (.slice a acc.length c)) (.slice a acc.length c) acc ∧ Kept (fun _ => False) w0 (wr.setCell ⟨Q + 1 + 1, 0, none⟩ (.slice a acc.length c))) := Lib.hid ⟨hI.out.row.row.kept (Kept.setCell (fun k => k = Q + 1 + 1) wr _ _ rfl) (fun k hk e => hlow.out k hk e), (HKA.out.then HKW.out).trans (Kept.setCell (fun k => k = Q + 1 + 1) wr _ _ rfl) (fun _ _ h => h) (fun i hi e => by rw [HQ0.out] at e; omega)⟩
      have r0 : (wr.setCell ⟨Q + 1 + 1, 0, none⟩ (.slice a acc.length c)).cell? ⟨Q + 1 + 1, 0, none⟩ = some (.slice a acc.length c) := by go_simp
      clear hI g1 g2 hlt
      go_wp2_with fail
      refine bodyPost_ret (v := .agg #[.slice a acc.length c]) (by simp [results, Tryz.results77, go_sem, r0]) rfl ⟨_, rfl, acc, ⟨_, rfl, HEND.out.1, G1.out⟩, G2.out, HEND.out.2⟩
end Go.Proofs.YtjglnpijngdpkaaGreatDoor
