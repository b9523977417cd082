/-
  The reference's reader of layer 2: Int.
-/
import Derived.Test.YtnmcihfegbdipaaDoorRfU
import Derived.Test.YtnmcihfegbdipaaDoorRInt
namespace Go.Proofs.YtnmcihfegbdipaaDoor
open Go.RowKit
set_option linter.unusedVariables false

/-- What the walk needs of the number that was taken. -/
def NumAns (w : World) (mb x n : Nat) : Prop :=
  Calls Tryd.prog 90 #[.pointer (some ⟨mb, 0, none⟩)] w fun e w' => (n = 0 → e = .returned (.tuple #[.int .u64 0, .int .i64 0, .bool false]) ∧ w' = w.setCell ⟨mb, 1, none⟩ (.int .i64 6)) ∧ (n ≠ 0 → e = .returned (.tuple #[.int .u64 x, .int .i64 n, .bool true]) ∧ w = w')

set_option maxRecDepth 100000 in
set_option maxHeartbeats 800000 in
theorem mint_lh (w : World) (mb : Nat) (low high : Int) (c1 : w.cell? ⟨mb, 1, none⟩ = some (.int .i64 0)) (f1 : w.frozen? ⟨mb, 1, none⟩ = false) (hc1 : high < low) :
    Calls Tryd.prog 63 #[.pointer (some ⟨mb, 0, none⟩), .int .i64 low, .int .i64 high] w fun e w' => e = .returned (.int .i64 0) ∧ w' = w.setCell ⟨mb, 1, none⟩ (.int .i64 1) := by
  go_enter Tryd.func63, Tryd.ntmps63
  go_wp2_with fail
  go_ret
  exact ⟨rfl, rfl⟩
set_option maxRecDepth 100000 in
set_option maxHeartbeats 800000 in
theorem mint_bad (w : World) (mb : Nat) (low high err : Int) (c1 : w.cell? ⟨mb, 1, none⟩ = some (.int .i64 err)) (he : (err == 0) = false) (he2 : (err != 0) = true) :
    Calls Tryd.prog 63 #[.pointer (some ⟨mb, 0, none⟩), .int .i64 low, .int .i64 high] w fun e w' => e = .returned (.int .i64 0) ∧ w = w' := by
  go_enter Tryd.func63, Tryd.ntmps63
  go_wp2_with fail
  go_ret
  exact ⟨rfl, rfl⟩
set_option maxRecDepth 100000 in
set_option maxHeartbeats 800000 in
theorem mint_none (w : World) (mb x : Nat) (low high : Int) (c1 : w.cell? ⟨mb, 1, none⟩ = some (.int .i64 0)) (HC : Hid (NumAns w mb x 0)) (hc1 : low ≤ high) :
    Calls Tryd.prog 63 #[.pointer (some ⟨mb, 0, none⟩), .int .i64 low, .int .i64 high] w fun e w' => e = .returned (.int .i64 0) ∧ w' = w.setCell ⟨mb, 1, none⟩ (.int .i64 6) := by
  go_enter Tryd.func63, Tryd.ntmps63
  go_wp2_with fail
  refine (HC.out).mono ?_
  rintro e w' ⟨hh, -⟩
  obtain ⟨rfl, rfl⟩ := hh rfl
  clear hh
  go_wp2_with fail
  go_ret
  exact ⟨rfl, rfl⟩
section
variable (w : World) (mb x n : Nat) (low high H t : Int) (c1 : w.cell? ⟨mb, 1, none⟩ = some (.int .i64 0)) (f1 : w.frozen? ⟨mb, 1, none⟩ = false) (HC : Hid (NumAns w mb x n)) (HN : Hid (n ≠ 0)) (hc1 : low ≤ high) (hx : (x : Int) / 2 = H)

include c1 f1 HC HN hc1 hx in
set_option maxRecDepth 100000 in
set_option maxHeartbeats 800000 in
theorem mint_even_low (e1 : (x : Int) % 2 = 0) (e2 : wrap64 (IntKind.u64.wrap H) = t) (hlo : t < low) :
    Calls Tryd.prog 63 #[.pointer (some ⟨mb, 0, none⟩), .int .i64 low, .int .i64 high] w fun e w' => e = .returned (.int .i64 0) ∧ w' = w.setCell ⟨mb, 1, none⟩ (.int .i64 2) := by
  go_enter Tryd.func63, Tryd.ntmps63
  go_wp2_with fail
  refine (HC.out).mono ?_
  rintro e w' ⟨-, hh⟩
  obtain ⟨rfl, rfl⟩ := hh HN.out
  clear hh
  go_wp2_with fail
  go_ret
  exact ⟨rfl, rfl⟩

include c1 f1 HC HN hc1 hx in
set_option maxRecDepth 100000 in
set_option maxHeartbeats 800000 in
theorem mint_even_high (e1 : (x : Int) % 2 = 0) (e2 : wrap64 (IntKind.u64.wrap H) = t) (hlo : low ≤ t) (hhi : high < t) :
    Calls Tryd.prog 63 #[.pointer (some ⟨mb, 0, none⟩), .int .i64 low, .int .i64 high] w fun e w' => e = .returned (.int .i64 0) ∧ w' = w.setCell ⟨mb, 1, none⟩ (.int .i64 2) := by
  go_enter Tryd.func63, Tryd.ntmps63
  go_wp2_with fail
  refine (HC.out).mono ?_
  rintro e w' ⟨-, hh⟩
  obtain ⟨rfl, rfl⟩ := hh HN.out
  clear hh
  go_wp2_with fail
  go_ret
  exact ⟨rfl, rfl⟩

include c1 HC HN hc1 hx in
set_option maxRecDepth 100000 in
set_option maxHeartbeats 800000 in
theorem mint_even_in (e1 : (x : Int) % 2 = 0) (e2 : wrap64 (IntKind.u64.wrap H) = t) (hlo : low ≤ t) (hhi : t ≤ high) (g off cap L : Nat) (c0 : w.cell? ⟨mb, 0, none⟩ = some (.slice (some ⟨g, off, none⟩) L cap)) (f0 : w.frozen? ⟨mb, 0, none⟩ = false) (hnl : n ≤ L) (hlc : L ≤ cap) (hcb : cap ≤ 9223372036854775807) :
    Calls Tryd.prog 63 #[.pointer (some ⟨mb, 0, none⟩), .int .i64 low, .int .i64 high] w fun e w' => e = .returned (.int .i64 t) ∧ w' = w.setCell ⟨mb, 0, none⟩ (.slice (some ⟨g, if n = cap then off else off + n, none⟩) (L - n : Nat) (cap - n : Nat)) := by
  have hn0 : (0 : Int) ≤ (n : Int) := by omega
  have hn1 : (n : Int) ≤ (L : Int) := by omega
  by_cases hnc : n = cap
  · have hln : L = cap := by omega
    subst hln
    subst hnc
    clear hnl hlc
    rw [if_pos rfl, Nat.sub_self]
    go_enter Tryd.func63, Tryd.ntmps63
    go_wp2_with fail
    refine (HC.out).mono ?_
    rintro e w' ⟨-, hh⟩
    obtain ⟨rfl, rfl⟩ := hh HN.out
    clear hh
    go_wp2_with fail
    go_ret
    exact ⟨rfl, rfl⟩
  · have hnc' : ¬ cap = n := by omega
    rw [if_neg hnc]
    go_enter Tryd.func63, Tryd.ntmps63
    go_wp2_with fail
    refine (HC.out).mono ?_
    rintro e w' ⟨-, hh⟩
    obtain ⟨rfl, rfl⟩ := hh HN.out
    clear hh
    go_wp2_with fail
    go_ret
    exact ⟨rfl, rfl⟩

include c1 f1 HC HN hc1 hx in
set_option maxRecDepth 100000 in
set_option maxHeartbeats 800000 in
theorem mint_odd_low (e1 : (x : Int) % 2 = 1) (e2 : wrap64 (wrap64 (-wrap64 (IntKind.u64.wrap H)) - 1) = t) (hlo : t < low) :
    Calls Tryd.prog 63 #[.pointer (some ⟨mb, 0, none⟩), .int .i64 low, .int .i64 high] w fun e w' => e = .returned (.int .i64 0) ∧ w' = w.setCell ⟨mb, 1, none⟩ (.int .i64 2) := by
  go_enter Tryd.func63, Tryd.ntmps63
  go_wp2_with fail
  refine (HC.out).mono ?_
  rintro e w' ⟨-, hh⟩
  obtain ⟨rfl, rfl⟩ := hh HN.out
  clear hh
  go_wp2_with fail
  go_ret
  exact ⟨rfl, rfl⟩

include c1 f1 HC HN hc1 hx in
set_option maxRecDepth 100000 in
set_option maxHeartbeats 800000 in
theorem mint_odd_high (e1 : (x : Int) % 2 = 1) (e2 : wrap64 (wrap64 (-wrap64 (IntKind.u64.wrap H)) - 1) = t) (hlo : low ≤ t) (hhi : high < t) :
    Calls Tryd.prog 63 #[.pointer (some ⟨mb, 0, none⟩), .int .i64 low, .int .i64 high] w fun e w' => e = .returned (.int .i64 0) ∧ w' = w.setCell ⟨mb, 1, none⟩ (.int .i64 2) := by
  go_enter Tryd.func63, Tryd.ntmps63
  go_wp2_with fail
  refine (HC.out).mono ?_
  rintro e w' ⟨-, hh⟩
  obtain ⟨rfl, rfl⟩ := hh HN.out
  clear hh
  go_wp2_with fail
  go_ret
  exact ⟨rfl, rfl⟩

include c1 HC HN hc1 hx in
set_option maxRecDepth 100000 in
set_option maxHeartbeats 800000 in
theorem mint_odd_in (e1 : (x : Int) % 2 = 1) (e2 : wrap64 (wrap64 (-wrap64 (IntKind.u64.wrap H)) - 1) = t) (hlo : low ≤ t) (hhi : t ≤ high) (g off cap L : Nat) (c0 : w.cell? ⟨mb, 0, none⟩ = some (.slice (some ⟨g, off, none⟩) L cap)) (f0 : w.frozen? ⟨mb, 0, none⟩ = false) (hnl : n ≤ L) (hlc : L ≤ cap) (hcb : cap ≤ 9223372036854775807) :
    Calls Tryd.prog 63 #[.pointer (some ⟨mb, 0, none⟩), .int .i64 low, .int .i64 high] w fun e w' => e = .returned (.int .i64 t) ∧ w' = w.setCell ⟨mb, 0, none⟩ (.slice (some ⟨g, if n = cap then off else off + n, none⟩) (L - n : Nat) (cap - n : Nat)) := by
  have hn0 : (0 : Int) ≤ (n : Int) := by omega
  have hn1 : (n : Int) ≤ (L : Int) := by omega
  by_cases hnc : n = cap
  · have hln : L = cap := by omega
    subst hln
    subst hnc
    clear hnl hlc
    rw [if_pos rfl, Nat.sub_self]
    go_enter Tryd.func63, Tryd.ntmps63
    go_wp2_with fail
    refine (HC.out).mono ?_
    rintro e w' ⟨-, hh⟩
    obtain ⟨rfl, rfl⟩ := hh HN.out
    clear hh
    go_wp2_with fail
    go_ret
    exact ⟨rfl, rfl⟩
  · have hnc' : ¬ cap = n := by omega
    rw [if_neg hnc]
    go_enter Tryd.func63, Tryd.ntmps63
    go_wp2_with fail
    refine (HC.out).mono ?_
    rintro e w' ⟨-, hh⟩
    obtain ⟨rfl, rfl⟩ := hh HN.out
    clear hh
    go_wp2_with fail
    go_ret
    exact ⟨rfl, rfl⟩

end

set_option maxRecDepth 100000 in
set_option maxHeartbeats 800000 in
theorem mint_any (w : World) (mb : Nat) (v : Value) (xs : List Nat) (err low high : Int) (h : Rd w mb v xs err) (hby : ∀ b ∈ xs, b < 256) :
    Calls Tryd.prog 63 #[.pointer (some ⟨mb, 0, none⟩), .int .i64 low, .int .i64 high] w fun e w' =>
      e = .returned (.int .i64 (intS xs low high err).1) ∧ ∃ v', Rd w' mb v' (intS xs low high err).2.1 (intS xs low high err).2.2 ∧ v'.ownBlock = v.ownBlock ∧ Kept (fun k => k = mb) w w' := by
  by_cases he : err = 0
  · subst he
    obtain ⟨⟨x, n⟩, hq⟩ : ∃ q, q = numberS xs := ⟨_, rfl⟩
    have HC : Hid (NumAns w mb x n) := rnum_any w mb v xs x n h hby hq.symm
    have hle := numberS_le xs
    have hlt := numberS_lt xs
    have hI : intS xs low high 0 = if high < low then (0, xs, 1) else if n = 0 then (0, xs, 6) else if unzz x < low ∨ high < unzz x then (0, xs, 2) else (unzz x, xs.drop n, 0) := by
      unfold intS; rw [← hq]; rfl
    rw [← hq] at hle hlt
    simp only at hle hlt
    by_cases hc1 : high < low
    · rw [if_pos hc1] at hI
      rw [hI]
      refine (mint_lh w mb low high h.cell1 h.free1 hc1).mono ?_
      rintro e w' ⟨rfl, rfl⟩
      exact ⟨rfl, v, h.setErr 1, rfl, Kept.setCell _ _ _ _ rfl⟩
    rw [if_neg hc1] at hI
    have hc1' : low ≤ high := by omega
    by_cases hn : n = 0
    · rw [if_pos hn] at hI
      subst hn
      rw [hI]
      refine (mint_none w mb x low high h.cell1 HC hc1').mono ?_
      rintro e w' ⟨rfl, rfl⟩
      exact ⟨rfl, v, h.setErr 6, rfl, Kept.setCell _ _ _ _ rfl⟩
    rw [if_neg hn] at hI
    have HN := Lib.hid hn
    obtain ⟨H, hH⟩ : ∃ H : Int, (x : Int) / 2 = H := ⟨_, rfl⟩
    obtain ⟨t, ht⟩ : ∃ t, t = unzz x := ⟨_, rfl⟩
    rw [← ht] at hI
    have hHb : 0 ≤ H ∧ H < 9223372036854775808 := by omega
    have hE : Hid (((x : Int) % 2 = 0 ∧ wrap64 (IntKind.u64.wrap H) = t) ∨ ((x : Int) % 2 = 1 ∧ wrap64 (wrap64 (-wrap64 (IntKind.u64.wrap H)) - 1) = t)) := by
      have hu : IntKind.u64.wrap H = H := IntWalk.u64_in _ (by omega)
      have hw : wrap64 H = H := IntWalk.wrap64_in _ (by omega)
      rw [hu]
      clear hu
      rcases Nat.mod_two_eq_zero_or_one x with hb | hb
      · refine Or.inl ⟨by omega, ?_⟩
        rw [hw, ht, unzz, if_pos hb]; omega
      · refine Or.inr ⟨by omega, ?_⟩
        rw [hw, IntWalk.wrap64_in (-H) (by omega), IntWalk.wrap64_in _ (by omega), ht, unzz, if_neg (by omega)]; omega
    by_cases hlo : t < low
    · rw [if_pos (Or.inl hlo)] at hI
      rw [hI]
      rcases hE.out with ⟨e1, e2⟩ | ⟨e1, e2⟩
      · refine (mint_even_low w mb x n low high H t h.cell1 h.free1 HC HN hc1' hH e1 e2 hlo).mono ?_
        rintro e w' ⟨rfl, rfl⟩
        exact ⟨rfl, v, h.setErr 2, rfl, Kept.setCell _ _ _ _ rfl⟩
      · refine (mint_odd_low w mb x n low high H t h.cell1 h.free1 HC HN hc1' hH e1 e2 hlo).mono ?_
        rintro e w' ⟨rfl, rfl⟩
        exact ⟨rfl, v, h.setErr 2, rfl, Kept.setCell _ _ _ _ rfl⟩
    have hlo' : low ≤ t := by omega
    by_cases hhi : high < t
    · rw [if_pos (Or.inr hhi)] at hI
      rw [hI]
      rcases hE.out with ⟨e1, e2⟩ | ⟨e1, e2⟩
      · refine (mint_even_high w mb x n low high H t h.cell1 h.free1 HC HN hc1' hH e1 e2 hlo' hhi).mono ?_
        rintro e w' ⟨rfl, rfl⟩
        exact ⟨rfl, v, h.setErr 2, rfl, Kept.setCell _ _ _ _ rfl⟩
      · refine (mint_odd_high w mb x n low high H t h.cell1 h.free1 HC HN hc1' hH e1 e2 hlo' hhi).mono ?_
        rintro e w' ⟨rfl, rfl⟩
        exact ⟨rfl, v, h.setErr 2, rfl, Kept.setCell _ _ _ _ rfl⟩
    have hhi' : t ≤ high := by omega
    rw [if_neg (by omega)] at hI
    rw [hI]
    have hReads := h.reads
    rcases h.reads with ⟨rfl, rfl⟩ | ⟨g, off, cap, rfl, h1, h2, h3, h4⟩
    · exact absurd (congrArg Prod.snd hq) hn
    have hap : g ≠ mb := fun e => h.apart (by simp [Value.ownBlock, e])
    have hcb : cap ≤ 9223372036854775807 := by unfold maxLen at h2; omega
    have hrd : Reads w (.slice (some ⟨g, if n = cap then off else off + n, none⟩) (xs.length - n : Nat) (cap - n : Nat)) (xs.drop n) := by
      by_cases hnc : n = cap
      · have hln : xs.length = n := by omega
        rw [if_pos hnc]
        exact Or.inr ⟨g, off, cap - n, by simp, by simp; omega, by unfold maxLen at h2 ⊢; omega, h3, fun i hi => by simp at hi; omega⟩
      · rw [if_neg hnc]
        exact Reads.drop n hReads hle
    rcases hE.out with ⟨e1, e2⟩ | ⟨e1, e2⟩
    · refine (mint_even_in w mb x n low high H t h.cell1 HC HN hc1' hH e1 e2 hlo' hhi' g off cap xs.length h.cell0 h.free0 hle h1 hcb).mono ?_
      rintro e w' ⟨rfl, rfl⟩
      exact ⟨rfl, _, h.setLeft hrd (by simpa [Value.ownBlock] using hap), rfl, Kept.setCell _ _ _ _ rfl⟩
    · refine (mint_odd_in w mb x n low high H t h.cell1 HC HN hc1' hH e1 e2 hlo' hhi' g off cap xs.length h.cell0 h.free0 hle h1 hcb).mono ?_
      rintro e w' ⟨rfl, rfl⟩
      exact ⟨rfl, _, h.setLeft hrd (by simpa [Value.ownBlock] using hap), rfl, Kept.setCell _ _ _ _ rfl⟩
  · refine (mint_bad w mb low high err h.cell1 (by simpa using he) (by simpa using he)).mono ?_
    rintro e w' ⟨rfl, rfl⟩
    rw [show intS xs low high err = (0, xs, err) from if_pos he]
    exact ⟨rfl, v, h, rfl, Kept.refl _ _⟩
end Go.Proofs.YtnmcihfegbdipaaDoor
