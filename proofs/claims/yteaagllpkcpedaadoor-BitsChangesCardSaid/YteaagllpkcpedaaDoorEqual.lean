/-
  bits.Set.Equal: two sets are equal exactly if their numbers are.
-/
import Derived.Test.YteaagllpkcpedaaDoorOf
import Derived.BigQuiet
namespace Go.Proofs.YteaagllpkcpedaaDoor
open Go.RowKit

theorem wl_inj {A B n : Nat} (hA : A < 2 ^ (64 * n)) (hB : B < 2 ^ (64 * n)) (h : wl A n = wl B n) : A = B := by
  refine Nat.eq_of_testBit_eq fun j => ?_
  by_cases hj : j < 64 * n
  · have h1 := congrArg (fun l => (l.getD (j / 64) 0).testBit (j % 64)) h
    simp only [wl_getD _ _ _ (show j / 64 < n by omega), Nat.testBit_mod_two_pow, Nat.testBit_div_two_pow] at h1
    have h2 : j % 64 < 64 := by omega
    have h3 : j % 64 + 64 * (j / 64) = j := by omega
    simpa [h2, h3] using h1
  · rw [Nat.testBit_lt_two_pow (Nat.lt_of_lt_of_le hA (Nat.pow_le_pow_right (by omega) (by omega))), Nat.testBit_lt_two_pow (Nat.lt_of_lt_of_le hB (Nat.pow_le_pow_right (by omega) (by omega)))]

theorem Canon.inj {hs : List Nat} {A B : Nat} (h : Canon hs A) (k : Canon hs B) : A = B :=
  wl_inj h.lt k.lt (h.eq.symm.trans k.eq)

theorem Canon.le {a b : List Nat} {M : Nat} (h : Canon a M) (k : Canon b M) : b.length ≤ a.length := by
  rcases k.last with e | e
  · omega
  · by_cases hl : b.length ≤ a.length
    · exact hl
    · exfalso
      refine e (Nat.div_eq_of_lt (Nat.lt_of_lt_of_le h.lt (Nat.pow_le_pow_right (by omega) (by omega))))

theorem Canon.uniq {a b : List Nat} {M : Nat} (h : Canon a M) (k : Canon b M) : a = b := by
  have hl : a.length = b.length := Nat.le_antisymm (k.le h) (h.le k)
  rw [h.eq, k.eq, hl]

/-- A row of words, cell by cell. -/
theorem words_form {w : World} {v : Value} {xs : List Nat} (h : Words w v xs) : ∃ a c, v = .slice a xs.length c ∧ xs.length ≤ maxLen ∧ ∀ i, i < xs.length → ∃ g off, a = some ⟨g, off, none⟩ ∧ g < w.heap.size ∧ w.cell? ⟨g, off + i, none⟩ = some (.int .u64 (xs.getD i 0 : Nat)) := by
  rcases h with ⟨h, h2⟩ | ⟨g, off, cap, h, h1, h3, h4, h5⟩
  · exact ⟨none, 0, by rw [h, h2]; rfl, by rw [h2]; simp, fun i hi => by rw [h2] at hi; simp at hi⟩
  · exact ⟨_, _, h, by omega, fun i hi => ⟨g, off, rfl, h4, h5 i hi⟩⟩

theorem take_eq_succ {xs ys : List Nat} {k : Nat} (h : xs.take k = ys.take k) (hx : k < xs.length) (hy : k < ys.length) (he : xs.getD k 0 = ys.getD k 0) : xs.take (k + 1) = ys.take (k + 1) := by
  rw [List.take_succ_eq_append_getElem hx, List.take_succ_eq_append_getElem hy, h]
  simp only [List.getD_eq_getElem?_getD, List.getElem?_eq_getElem hx, List.getElem?_eq_getElem hy, Option.getD_some] at he
  rw [he]

set_option maxRecDepth 100000 in
set_option maxHeartbeats 1600000 in
theorem equalw_any (w : World) (v u : Value) (xs ys : List Nat) (hv : Words w v xs) (hu : Words w u ys) :
    Calls Tryd.prog 48 #[v, u] w fun e w' => e = .returned (.bool (decide (xs = ys))) ∧ Kept (fun _ => False) w w' := by
  obtain ⟨a, c, rfl, hm, hx⟩ := words_form hv
  obtain ⟨a', c', rfl, hm', hy⟩ := words_form hu
  have HX := Lib.hid hx; have HY := Lib.hid hy
  clear hx hy hv hu
  have hm1 : xs.length ≤ 9223372036854775807 := by unfold maxLen at hm; omega
  obtain ⟨n, hn⟩ : ∃ n, n = xs.length := ⟨_, rfl⟩
  obtain ⟨m, hmm⟩ : ∃ m, m = ys.length := ⟨_, rfl⟩
  rw [← hn, ← hmm]
  by_cases hne : n = m
  · have hyl : ys.length = n := by omega
    subst hne
    clear hmm
    go_enter Tryd.func48, Tryd.ntmps48
    rw [← hn] at hm1
    have HN := Lib.hid hn; have HYL := Lib.hid hyl; clear hn hyl hm hm'
    go_wp2_with fail
    go_loopw [13] (fun iv wr => ∃ k : Nat, k ≤ n ∧ iv = .int .i64 k ∧ Hid (xs.take k = ys.take k) ∧ Kept (fun _ => False) w wr) (fun iv _ => n - (intOf iv).toNat)
    case atStart => exact ⟨0, Nat.zero_le _, rfl, rfl, Kept.refl _ _⟩
    case round =>
      obtain ⟨k, hk, rfl, ht, hkw⟩ := hrel
      by_cases hlt : k < n
      · have hlt' : (k : Int) < (n : Int) := by omega
        have hk0 : (0 : Int) ≤ (k : Int) := by omega
        obtain ⟨g, off, rfl, hg, hc⟩ := HX.out k (by rw [← HN.out]; exact hlt)
        obtain ⟨g', off', rfl, hg', hc'⟩ := HY.out k (by rw [HYL.out]; exact hlt)
        obtain ⟨x, hx⟩ : ∃ x, x = xs.getD k 0 := ⟨_, rfl⟩
        obtain ⟨y, hy⟩ : ∃ y, y = ys.getD k 0 := ⟨_, rfl⟩
        rw [← hx] at hc
        rw [← hy] at hc'
        have c1 := (hkw.cell (p := ⟨g, off + k, none⟩) hg (fun h => h)).trans hc
        have c2 := (hkw.cell (p := ⟨g', off' + k, none⟩) hg' (fun h => h)).trans hc'
        have HX1 := Lib.hid hx; have HY1 := Lib.hid hy; clear hx hy hc hc'
        by_cases hxy : x = y
        · subst hxy
          go_wp2_with fail
          go_quiet (fail)
          go_wp2_with fail
          go_roundw
          case rel => exact ⟨k + 1, by omega, by go_num, take_eq_succ ht.out (by rw [← HN.out]; exact hlt) (by rw [HYL.out]; exact hlt) (by rw [← HX1.out, ← HY1.out]), hkw.drewN _⟩
          case measure => simp [intOf]; omega
        · have hb : ((x : Int) == (y : Int)) = false := by simp; omega
          go_wp2_with fail
          go_quiet (fail)
          go_wp2_with fail
          go_ret
          refine ⟨?_, hkw.drewN _⟩
          have : decide (xs = ys) = false := by
            simp only [decide_eq_false_iff_not]
            intro e
            exact hxy (by rw [HX1.out, HY1.out, e])
          rw [this]; rfl
      · obtain rfl : k = n := by omega
        go_wp2_with fail
        go_ret
        refine ⟨?_, hkw⟩
        have h := ht.out
        rw [List.take_of_length_le (by rw [← HN.out]; exact Nat.le_refl _), List.take_of_length_le (by rw [HYL.out]; exact Nat.le_refl _)] at h
        rw [show decide (xs = ys) = true by simpa using h]; rfl
  · have hd : decide (xs = ys) = false := by
      simp only [decide_eq_false_iff_not]
      intro e
      exact hne (by rw [hn, hmm, e])
    rw [hd]
    have hb : ((n : Int) == (m : Int)) = false := by simp; omega
    clear hd hn hmm hm1 hm hm'
    go_enter Tryd.func48, Tryd.ntmps48
    go_wp2_with fail
    go_ret
    exact ⟨rfl, Kept.refl _ _⟩

set_option maxRecDepth 100000 in
set_option maxHeartbeats 800000 in
/-- 'Equal' of any two sets. -/
theorem equal_any (w : World) (v u : Value) (M K : Nat) (hv : SetV w v M) (hu : SetV w u K) :
    Calls Tryd.prog 24 #[v, u] w fun e w' => e = .returned (.bool (decide (M = K))) ∧ Kept (fun _ => False) w w' := by
  obtain ⟨a, hs, rfl, hw, hc, _⟩ := hv.ex
  obtain ⟨b, ks, rfl, hw', hc', _⟩ := hu.ex
  obtain ⟨l1, hl1⟩ : ∃ l, l = M % 2 ^ 64 := ⟨_, rfl⟩
  obtain ⟨l2, hl2⟩ : ∃ l, l = K % 2 ^ 64 := ⟨_, rfl⟩
  rw [← hl1, ← hl2]
  obtain ⟨a1, c1, hf1⟩ := hw.form
  obtain ⟨a2, c2, hf2⟩ := hw'.form
  have hE := fun (W : World) (hk : Kept (fun _ => False) w W) => equalw_any W a b hs ks (hw.kept hk (fun _ _ h => h)) (hw'.kept hk (fun _ _ h => h))
  have HE := Lib.hid hE; clear hE
  generalize hs.length = n1 at hf1
  generalize ks.length = n2 at hf2
  subst hf1 hf2
  have hka : Kept (fun _ => False) w ((w.alloc (.cells #[.int .u64 l1, .slice a1 n1 c1] 28)).alloc (.cells #[.int .u64 l2, .slice a2 n2 c2] 28)) := (Kept.alloc _ _ _).then (Kept.alloc _ _ _)
  have HKA := Lib.hid hka; clear hka
  by_cases hl : l1 = l2
  · have hd : decide (M = K) = decide (hs = ks) := by
      congr 1
      refine propext ⟨fun e => ?_, fun e => ?_⟩
      · subst e; exact hc.uniq hc'
      · subst e
        have h3 := hc.inj hc'
        have h1 := Nat.div_add_mod M (2 ^ 64)
        have h2 := Nat.div_add_mod K (2 ^ 64)
        rw [← h1, ← h2, h3, ← hl1, ← hl2, hl]
    rw [hd]
    clear hd hl1 hl2 hv hu hw hw' hc hc'
    subst hl
    go_enter Tryd.func24, Tryd.ntmps24
    go_wp2_with fail
    refine (HE.out _ HKA.out).mono ?_
    rintro e w1 ⟨rfl, hk⟩
    go_wp2_with fail
    go_ret
    exact ⟨rfl, HKA.out.then hk⟩
  · have hd : decide (M = K) = false := by
      simp only [decide_eq_false_iff_not]
      intro e
      exact hl (by rw [hl1, hl2, e])
    rw [hd]
    have hb : ((l1 : Int) == (l2 : Int)) = false := by simp; omega
    clear hd hl1 hl2 hv hu hw hw' hc hc' HE
    go_enter Tryd.func24, Tryd.ntmps24
    go_wp2_with fail
    go_ret
    exact ⟨rfl, HKA.out⟩

end Go.Proofs.YteaagllpkcpedaaDoor
