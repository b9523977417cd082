/-
  The readers of layer 2: Number and Count, of the program and of the reference, for whatever most.
-/
import Derived.Test.YtnmcihfegbdipaaDoorRfU
import Derived.Test.YtnmcihfegbdipaaDoorPiece
namespace Go.Proofs.YtnmcihfegbdipaaDoor
open Go.RowKit

/-- What 'Count' gives for a most that is not negative. -/
def cntG (xs : List Nat) (most : Nat) (err : Int) : Nat × List Nat × Int := if err = 0 then boundedS xs most 3 0 else (0, xs, err)
/-- What 'Count' and 'Number' give. -/
def cntI (xs : List Nat) (most err : Int) : Nat × List Nat × Int := if err = 0 ∧ most < 0 then (0, xs, 1) else cntG xs most.toNat err
def numI (xs : List Nat) (most err : Int) : Nat × List Nat × Int := if err = 0 ∧ most < 0 then (0, xs, 1) else uintS xs most.toNat err

theorem bounded_most (xs : List Nat) (most : Nat) (a e : Int) : (boundedS xs most a e).1 ≤ most := by
  unfold boundedS
  split
  · simp
  · split
    · simp
    · simp; omega
theorem uint_most (xs : List Nat) (most : Nat) (e : Int) : (uintS xs most e).1 ≤ most := by
  unfold uintS
  split
  · exact bounded_most _ _ _ _
  · simp

set_option maxRecDepth 100000 in
set_option maxHeartbeats 800000 in
theorem mcount_nat (w : World) (mb : Nat) (v : Value) (xs : List Nat) (err : Int) (most : Nat) (hmost : most < 9223372036854775808) (h : Rd w mb v xs err) (hby : ∀ b ∈ xs, b < 256) :
    Calls Tryd.prog 72 #[.pointer (some ⟨mb, 0, none⟩), .int .i64 (most : Nat)] w fun e w' =>
      e = .returned (.int .i64 (cntG xs most err).1) ∧ ∃ v', Rd w' mb v' (cntG xs most err).2.1 (cntG xs most err).2.2 ∧ v'.ownBlock = v.ownBlock ∧ Kept (fun k => k = mb) w w' := by
  have HH := Lib.hid h
  have hm0 : ¬ (most : Int) < 0 := by omega
  have hmw : IntKind.u64.wrap (most : Int) = (most : Int) := IntWalk.u64_in _ (by omega)
  have HM := Lib.hid hmost
  clear hmost
  by_cases he : err = 0
  · subst he
    rw [show cntG xs most 0 = boundedS xs most 3 0 from if_pos rfl]
    obtain ⟨⟨x, n⟩, hq⟩ : ∃ q, q = numberS xs := ⟨_, rfl⟩
    have hnum := rnum_any w mb v xs x n h hby hq.symm
    have hle := numberS_le xs
    have hB : boundedS xs most 3 0 = if n = 0 then (0, xs, 6) else if most < x then (0, xs, 3) else (x, xs.drop n, 0) := by
      unfold boundedS; rw [← hq]
    rw [← hq] at hle
    simp only at hle
    have c1 := h.cell1
    have HY := Lib.hid hby
    have HC := Lib.hid hnum
    clear hnum hby
    by_cases hn : n = 0
    · rw [if_pos hn] at hB
      rw [hB]
      clear hB h hle hq
      have HN := Lib.hid hn; clear hn
      go_enter Tryd.func72, Tryd.ntmps72
      go_wp2_with fail
      refine HC.out.mono ?_
      rintro e w' ⟨hh, -⟩
      obtain ⟨rfl, rfl⟩ := hh HN.out
      clear hh
      go_wp2_with fail
      go_ret
      exact ⟨rfl, v, HH.out.setErr 6, rfl, Kept.setCell _ _ _ _ rfl⟩
    · rw [if_neg hn] at hB
      have HN := Lib.hid hn
      rcases h.reads with ⟨rfl, rfl⟩ | ⟨g, off, cap, rfl, h1, h2, h3, h4⟩
      · exact absurd (congrArg Prod.snd hq) hn
      have f0 := h.free0; have f1 := h.free1; have c0 := h.cell0; have hlt := h.lt
      have hap : g ≠ mb := fun e => h.apart (by simp [Value.ownBlock, e])
      have HAP := Lib.hid hap
      have HR := Lib.hid h.reads
      clear h h4 hq hap
      have hc2 : cap ≤ 9223372036854775807 := by unfold maxLen at h2; omega
      have H2 := Lib.hid h2
      clear h2
      by_cases hx : most < x
      · rw [if_pos hx] at hB
        rw [hB]
        clear hB hn
        go_enter Tryd.func72, Tryd.ntmps72
        go_wp2_with fail
        refine HC.out.mono ?_
        rintro e w' ⟨-, hh⟩
        obtain ⟨rfl, rfl⟩ := hh HN.out
        clear hh
        go_wp2_with fail
        go_ret
        exact ⟨rfl, _, HH.out.setErr 3, rfl, Kept.setCell _ _ _ _ rfl⟩
      · rw [if_neg hx] at hB
        rw [hB]
        have hxw : IntKind.i64.wrap (x : Int) = (x : Int) := IntWalk.i64_in _ (by have := HM.out; omega)
        clear hB hn
        have hn0 : (0 : Int) ≤ (n : Int) := by omega
        have hn1 : (n : Int) ≤ (xs.length : Int) := by omega
        have hk := fun o' => Kept.setCell (fun k => k = mb) w ⟨mb, 0, none⟩ o' rfl
        have HK := Lib.hid hk
        clear hk
        obtain ⟨L, hL⟩ : ∃ L, L = xs.length := ⟨_, rfl⟩
        by_cases hnc : n = cap
        · have hln : L = n := by omega
          have hrd : Reads w (.slice (some ⟨g, off, none⟩) 0 0) (xs.drop n) := Or.inr ⟨g, off, 0, by simp; omega, by simp; omega, by unfold maxLen; omega, h3, fun i hi => by simp at hi; omega⟩
          have HRD := Lib.hid hrd
          have HLN := Lib.hid hln
          rw [← hL] at c0 hn1 hle h1
          subst hnc
          subst hln
          clear hrd
          have HL := Lib.hid hL
          clear hL
          go_enter Tryd.func72, Tryd.ntmps72
          go_wp2_with fail
          refine HC.out.mono ?_
          rintro e w' ⟨-, hh⟩
          obtain ⟨rfl, rfl⟩ := hh HN.out
          clear hh
          go_wp2_with fail
          go_ret
          exact ⟨rfl, _, HH.out.setLeft HRD.out (by simpa [Value.ownBlock] using HAP.out), rfl, HK.out _⟩
        · have hnc' : ¬ cap = n := by omega
          have hrd := Reads.drop n HR.out hle
          rw [← hL] at c0 hn1 hle h1 hrd
          have HRD := Lib.hid hrd
          clear hnc hrd
          have HL := Lib.hid hL
          clear hL
          go_enter Tryd.func72, Tryd.ntmps72
          go_wp2_with fail
          refine HC.out.mono ?_
          rintro e w' ⟨-, hh⟩
          obtain ⟨rfl, rfl⟩ := hh HN.out
          clear hh
          go_wp2_with fail
          go_ret
          exact ⟨rfl, _, HH.out.setLeft HRD.out (by simpa [Value.ownBlock] using HAP.out), rfl, HK.out _⟩
  · rw [show cntG xs most err = (0, xs, err) from if_neg he]
    have c1 := h.cell1
    have he1 : (err == 0) = false := by simpa using he
    have he2 : (err != 0) = true := by simpa using he
    clear h hby he
    go_enter Tryd.func72, Tryd.ntmps72
    go_wp2_with fail
    go_ret
    exact ⟨rfl, v, HH.out, rfl, Kept.refl _ _⟩

set_option maxRecDepth 100000 in
set_option maxHeartbeats 800000 in
theorem mcount_neg (w : World) (mb : Nat) (v : Value) (xs : List Nat) (most : Int) (hneg : most < 0) (h : Rd w mb v xs 0) :
    Calls Tryd.prog 72 #[.pointer (some ⟨mb, 0, none⟩), .int .i64 most] w fun e w' => e = .returned (.int .i64 0) ∧ w' = w.setCell ⟨mb, 1, none⟩ (.int .i64 1) := by
  have c1 := h.cell1; have f1 := h.free1; have hlt := h.lt
  clear h
  go_enter Tryd.func72, Tryd.ntmps72
  go_wp2_with fail
  go_ret
  exact ⟨rfl, rfl⟩

set_option maxRecDepth 100000 in
set_option maxHeartbeats 800000 in
theorem mcount_bad (w : World) (mb : Nat) (v : Value) (xs : List Nat) (most err : Int) (he : err ≠ 0) (h : Rd w mb v xs err) :
    Calls Tryd.prog 72 #[.pointer (some ⟨mb, 0, none⟩), .int .i64 most] w fun e w' => e = .returned (.int .i64 0) ∧ w = w' := by
  have c1 := h.cell1
  have he1 : (err == 0) = false := by simpa using he
  have he2 : (err != 0) = true := by simpa using he
  clear h he
  go_enter Tryd.func72, Tryd.ntmps72
  go_wp2_with fail
  go_ret
  exact ⟨rfl, rfl⟩

/-- The reference's 'Count'. -/
theorem mcount_any (w : World) (mb : Nat) (v : Value) (xs : List Nat) (err most : Int) (hmost : most < 9223372036854775808) (h : Rd w mb v xs err) (hby : ∀ b ∈ xs, b < 256) :
    Calls Tryd.prog 72 #[.pointer (some ⟨mb, 0, none⟩), .int .i64 most] w fun e w' =>
      e = .returned (.int .i64 (cntI xs most err).1) ∧ ∃ v', Rd w' mb v' (cntI xs most err).2.1 (cntI xs most err).2.2 ∧ v'.ownBlock = v.ownBlock ∧ Kept (fun k => k = mb) w w' := by
  by_cases he : err = 0
  · subst he
    by_cases hn : most < 0
    · rw [show cntI xs most 0 = (0, xs, 1) from if_pos ⟨rfl, hn⟩]
      refine (mcount_neg w mb v xs most hn h).mono ?_
      rintro e w' ⟨rfl, rfl⟩
      exact ⟨rfl, v, h.setErr 1, rfl, Kept.setCell _ _ _ _ rfl⟩
    · obtain ⟨m, rfl⟩ : ∃ m : Nat, most = (m : Int) := ⟨most.toNat, by omega⟩
      rw [show cntI xs (m : Int) 0 = cntG xs m 0 from if_neg fun h => hn h.2]
      exact mcount_nat w mb v xs 0 m (by omega) h hby
  · rw [show cntI xs most err = (0, xs, err) from (if_neg fun h => he h.1).trans (if_neg he)]
    refine (mcount_bad w mb v xs most err he h).mono ?_
    rintro e w' ⟨rfl, rfl⟩
    exact ⟨rfl, v, h, rfl, Kept.refl _ _⟩

end Go.Proofs.YtnmcihfegbdipaaDoor
