/-
  The reference's reader of layer 2: number and Uint.
-/
import Derived.Test.YtnmcihfegbdipaaDoorRfG
import Derived.OwnWalk
namespace Go.Proofs.YtnmcihfegbdipaaDoor
open Go.RowKit

set_option maxRecDepth 100000 in
set_option maxHeartbeats 400000 in
theorem rnum_any (w : World) (mb : Nat) (v : Value) (xs : List Nat) (x n : Nat) (h : Rd w mb v xs 0) (hby : ∀ b ∈ xs, b < 256) (hq : numberS xs = (x, n)) :
    Calls Tryd.prog 90 #[.pointer (some ⟨mb, 0, none⟩)] w fun e w' => (n = 0 → e = .returned (.tuple #[.int .u64 0, .int .i64 0, .bool false]) ∧ w' = w.setCell ⟨mb, 1, none⟩ (.int .i64 6)) ∧ (n ≠ 0 → e = .returned (.tuple #[.int .u64 x, .int .i64 n, .bool true]) ∧ w = w') := by
  have hcall := get_any v xs w h.reads hby
  rw [hq] at hcall
  have HC := Lib.hid hcall
  clear hcall hq
  have c0 := h.cell0; have c1 := h.cell1; have f1 := h.free1; have hlt := h.lt
  clear h hby
  by_cases hn : n = 0
  · subst hn
    go_enter Tryd.func90, Tryd.ntmps90
    go_wp2_with fail
    refine HC.out.mono ?_
    rintro e w' ⟨rfl, rfl⟩
    go_wp2_with fail
    go_ret3
    exact ⟨fun _ => ⟨rfl, rfl⟩, fun h => absurd rfl h⟩
  · have hn' : ((n : Int) == 0) = false := by simp; omega
    have HN := Lib.hid hn; clear hn
    go_enter Tryd.func90, Tryd.ntmps90
    go_wp2_with fail
    refine HC.out.mono ?_
    rintro e w' ⟨rfl, rfl⟩
    go_wp2_with fail
    go_ret3
    exact ⟨fun h => absurd h HN.out, fun _ => ⟨rfl, rfl⟩⟩

set_option maxRecDepth 100000 in
set_option maxHeartbeats 800000 in
theorem muint_any (w : World) (mb : Nat) (v : Value) (xs : List Nat) (err : Int) (most : Nat) (h : Rd w mb v xs err) (hby : ∀ b ∈ xs, b < 256) :
    Calls Tryd.prog 59 #[.pointer (some ⟨mb, 0, none⟩), .int .u64 most] w fun e w' =>
      e = .returned (.int .u64 (uintS xs most err).1) ∧ ∃ v', Rd w' mb v' (uintS xs most err).2.1 (uintS xs most err).2.2 ∧ v'.ownBlock = v.ownBlock ∧ Kept (fun k => k = mb) w w' := by
  have HH := Lib.hid h
  by_cases he : err = 0
  · subst he
    rw [show uintS xs most 0 = boundedS xs most 2 0 from if_pos rfl]
    obtain ⟨⟨x, n⟩, hq⟩ : ∃ q, q = numberS xs := ⟨_, rfl⟩
    have hnum := rnum_any w mb v xs x n h hby hq.symm
    have hle := numberS_le xs
    have hB : boundedS xs most 2 0 = if n = 0 then (0, xs, 6) else if most < x then (0, xs, 2) else (x, xs.drop n, 0) := by
      unfold boundedS; rw [← hq]
    rw [← hq] at hle
    simp only at hle
    have c1 := h.cell1
    have HY := Lib.hid hby
    have HC := Lib.hid hnum
    clear hnum hby
    by_cases hn : n = 0
    · rw [if_pos hn] at hB
      rw [hB]
      clear hB h hle hq
      have HN := Lib.hid hn; clear hn
      go_enter Tryd.func59, Tryd.ntmps59
      go_wp2_with fail
      refine HC.out.mono ?_
      rintro e w' ⟨hh, -⟩
      obtain ⟨rfl, rfl⟩ := hh HN.out
      clear hh
      go_wp2_with fail
      go_ret
      exact ⟨rfl, v, HH.out.setErr 6, rfl, Kept.setCell _ _ _ _ rfl⟩
    · rw [if_neg hn] at hB
      have HN := Lib.hid hn
      rcases h.reads with ⟨rfl, rfl⟩ | ⟨g, off, cap, rfl, h1, h2, h3, h4⟩
      · exact absurd (congrArg Prod.snd hq) hn
      have f0 := h.free0; have f1 := h.free1; have c0 := h.cell0; have hlt := h.lt
      have hap : g ≠ mb := fun e => h.apart (by simp [Value.ownBlock, e])
      have HAP := Lib.hid hap
      have HR := Lib.hid h.reads
      clear h h4 hq hap
      have hc2 : cap ≤ 9223372036854775807 := by unfold maxLen at h2; omega
      have H2 := Lib.hid h2
      clear h2
      by_cases hx : most < x
      · rw [if_pos hx] at hB
        rw [hB]
        clear hB hn
        go_enter Tryd.func59, Tryd.ntmps59
        go_wp2_with fail
        refine HC.out.mono ?_
        rintro e w' ⟨-, hh⟩
        obtain ⟨rfl, rfl⟩ := hh HN.out
        clear hh
        go_wp2_with fail
        go_ret
        exact ⟨rfl, _, HH.out.setErr 2, rfl, Kept.setCell _ _ _ _ rfl⟩
      · rw [if_neg hx] at hB
        rw [hB]
        clear hB hn
        have hn0 : (0 : Int) ≤ (n : Int) := by omega
        have hn1 : (n : Int) ≤ (xs.length : Int) := by omega
        have hk := fun o' => Kept.setCell (fun k => k = mb) w ⟨mb, 0, none⟩ o' rfl
        have HK := Lib.hid hk
        clear hk
        obtain ⟨L, hL⟩ : ∃ L, L = xs.length := ⟨_, rfl⟩
        by_cases hnc : n = cap
        · have hln : L = n := by omega
          have hrd : Reads w (.slice (some ⟨g, off, none⟩) 0 0) (xs.drop n) := Or.inr ⟨g, off, 0, by simp; omega, by simp; omega, by unfold maxLen; omega, h3, fun i hi => by simp at hi; omega⟩
          have HRD := Lib.hid hrd
          have HLN := Lib.hid hln
          rw [← hL] at c0 hn1 hle h1
          subst hnc
          subst hln
          clear hrd
          have HL := Lib.hid hL
          clear hL
          go_enter Tryd.func59, Tryd.ntmps59
          go_wp2_with fail
          refine HC.out.mono ?_
          rintro e w' ⟨-, hh⟩
          obtain ⟨rfl, rfl⟩ := hh HN.out
          clear hh
          go_wp2_with fail
          go_ret
          exact ⟨rfl, _, HH.out.setLeft HRD.out (by simpa [Value.ownBlock] using HAP.out), rfl, HK.out _⟩
        · have hnc' : ¬ cap = n := by omega
          have hrd := Reads.drop n HR.out hle
          rw [← hL] at c0 hn1 hle h1 hrd
          have HRD := Lib.hid hrd
          clear hnc hrd
          have HL := Lib.hid hL
          clear hL
          go_enter Tryd.func59, Tryd.ntmps59
          go_wp2_with fail
          refine HC.out.mono ?_
          rintro e w' ⟨-, hh⟩
          obtain ⟨rfl, rfl⟩ := hh HN.out
          clear hh
          go_wp2_with fail
          go_ret
          exact ⟨rfl, _, HH.out.setLeft HRD.out (by simpa [Value.ownBlock] using HAP.out), rfl, HK.out _⟩
  · rw [show uintS xs most err = (0, xs, err) from if_neg he]
    have c1 := h.cell1
    have he1 : (err == 0) = false := by simpa using he
    have he2 : (err != 0) = true := by simpa using he
    clear h hby he
    go_enter Tryd.func59, Tryd.ntmps59
    go_wp2_with fail
    go_ret
    exact ⟨rfl, v, HH.out, rfl, Kept.refl _ _⟩
end Go.Proofs.YtnmcihfegbdipaaDoor
