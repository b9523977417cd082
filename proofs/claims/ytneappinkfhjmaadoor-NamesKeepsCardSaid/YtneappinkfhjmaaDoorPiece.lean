/-
  wire.Reader: Fail, readyFor, piece.
-/
import Derived.Test.YtneappinkfhjmaaDoorRead2
namespace Go.Proofs.YtneappinkfhjmaaDoor
open Go.RowKit

set_option maxRecDepth 100000 in
theorem fail_set (w : World) (rb : Nat) (e : Int) (hc : w.cell? ⟨rb, 1, none⟩ = some (.int .i64 0)) (hf : w.frozen? ⟨rb, 1, none⟩ = false) :
    Calls Tryd.prog 117 #[.pointer (some ⟨rb, 0, none⟩), .int .i64 e] w fun e' w' => e' = .returned (.tuple #[]) ∧ w' = w.setCell ⟨rb, 1, none⟩ (.int .i64 e) := by
  go_enter Tryd.func117, Tryd.ntmps117
  go_wp2_with fail
  refine (ready_yes w rb hc).mono ?_
  rintro e w' ⟨rfl, rfl⟩
  go_wp2
  go_end0
  exact ⟨rfl, rfl⟩

set_option maxRecDepth 100000 in
theorem fail_stays (w : World) (rb : Nat) (e err : Int) (he : err ≠ 0) (hc : w.cell? ⟨rb, 1, none⟩ = some (.int .i64 err)) :
    Calls Tryd.prog 117 #[.pointer (some ⟨rb, 0, none⟩), .int .i64 e] w fun e' w' => e' = .returned (.tuple #[]) ∧ w = w' := by
  go_enter Tryd.func117, Tryd.ntmps117
  go_wp2_with fail
  refine (ready_no w rb err he hc).mono ?_
  rintro e w' ⟨rfl, rfl⟩
  go_wp2
  go_end0
  exact ⟨rfl, rfl⟩

/-- The error that 'readyFor' leaves. -/
def forErr (n err : Int) : Int := if n < 0 ∧ err = 0 then 1 else err

set_option maxRecDepth 100000 in
set_option maxHeartbeats 400000 in
theorem readyFor_any (w : World) (rb : Nat) (v : Value) (xs : List Nat) (err n : Int) (h : Rd w rb v xs err) :
    Calls Tryd.prog 72 #[.pointer (some ⟨rb, 0, none⟩), .int .i64 n] w fun e w' =>
      e = .returned (.bool (decide (forErr n err = 0))) ∧ Rd w' rb v xs (forErr n err) ∧ Kept (fun k => k = rb) w w' := by
  have HH := Lib.hid h; clear h
  by_cases hn : n < 0
  · by_cases he : err = 0
    · subst he
      rw [show forErr n 0 = 1 from if_pos ⟨hn, rfl⟩, show decide ((1 : Int) = 0) = false from rfl]
      have HR := HH.out.setErr 1
      go_enter Tryd.func72, Tryd.ntmps72
      go_wp2_with fail
      refine (fail_set w rb 1 HH.out.cell1 HH.out.free1).mono ?_
      rintro e w' ⟨rfl, rfl⟩
      go_wp2_with fail
      refine (ready_no _ rb 1 (by decide) HR.cell1).mono ?_
      rintro e w' ⟨rfl, rfl⟩
      go_wp2_with fail
      go_ret
      exact ⟨rfl, HR, Kept.setCell _ _ _ _ rfl⟩
    · rw [show forErr n err = err from if_neg (fun h => he h.2), show decide (err = 0) = false by simpa using he]
      go_enter Tryd.func72, Tryd.ntmps72
      go_wp2_with fail
      refine (fail_stays w rb 1 err he HH.out.cell1).mono ?_
      rintro e w' ⟨rfl, rfl⟩
      go_wp2_with fail
      refine (ready_no w rb err he HH.out.cell1).mono ?_
      rintro e w' ⟨rfl, rfl⟩
      go_wp2_with fail
      go_ret
      exact ⟨rfl, HH.out, Kept.refl _ _⟩
  · rw [show forErr n err = err from if_neg (fun h => hn h.1)]
    by_cases he : err = 0
    · subst he
      go_enter Tryd.func72, Tryd.ntmps72
      go_wp2_with fail
      refine (ready_yes w rb HH.out.cell1).mono ?_
      rintro e w' ⟨rfl, rfl⟩
      go_wp2_with fail
      go_ret
      exact ⟨rfl, HH.out, Kept.refl _ _⟩
    · rw [show decide (err = 0) = false by simpa using he]
      go_enter Tryd.func72, Tryd.ntmps72
      go_wp2_with fail
      refine (ready_no w rb err he HH.out.cell1).mono ?_
      rintro e w' ⟨rfl, rfl⟩
      go_wp2_with fail
      go_ret
      exact ⟨rfl, HH.out, Kept.refl _ _⟩

/-- What 'piece' gives: the bytes, the bytes that are left, the error. -/
def pieceS (xs : List Nat) (most err : Int) : List Nat × List Nat × Int :=
  if err ≠ 0 then ([], xs, err) else if most < 0 then ([], xs, 1) else if (numberS xs).2 = 0 then ([], xs, 6)
  else if most < ((numberS xs).1 : Int) then ([], xs, 3) else if xs.length - (numberS xs).2 < (numberS xs).1 then ([], xs, 6)
  else ((xs.drop (numberS xs).2).take (numberS xs).1, xs.drop ((numberS xs).2 + (numberS xs).1), 0)

set_option maxRecDepth 100000 in
set_option maxHeartbeats 1600000 in
theorem piece_any (w : World) (rb : Nat) (v : Value) (xs : List Nat) (err most : Int) (h : Rd w rb v xs err) (hby : ∀ b ∈ xs, b < 256) (hmost : Hid (most < 9223372036854775808)) :
    Calls Tryd.prog 74 #[.pointer (some ⟨rb, 0, none⟩), .int .i64 most] w fun e w' => ∃ p v', e = .returned p ∧ Reads w' p (pieceS xs most err).1 ∧ (p.ownBlock = none ∨ p.ownBlock = v.ownBlock) ∧
      Rd w' rb v' (pieceS xs most err).2.1 (pieceS xs most err).2.2 ∧ v'.ownBlock = v.ownBlock ∧ Kept (fun k => k = rb) w w' := by
  have HH := Lib.hid h
  have hrf := readyFor_any w rb v xs err most h
  by_cases he : err = 0 ∧ ¬ most < 0
  · obtain ⟨rfl, hm0⟩ := he
    rw [show forErr most 0 = 0 from if_neg (fun h => hm0 h.1), show decide ((0 : Int) = 0) = true from rfl] at hrf
    have HRF := Lib.hid hrf; clear hrf
    obtain ⟨mn, rfl⟩ := Int.eq_ofNat_of_zero_le (show 0 ≤ most by omega)
    have hP : pieceS xs mn 0 = if (numberS xs).2 = 0 then ([], xs, 6) else if (mn : Int) < ((numberS xs).1 : Int) then ([], xs, 3) else if xs.length - (numberS xs).2 < (numberS xs).1 then ([], xs, 6)
        else ((xs.drop (numberS xs).2).take (numberS xs).1, xs.drop ((numberS xs).2 + (numberS xs).1), 0) := by
      rw [pieceS, if_neg (by simp), if_neg hm0]
    have hle := numberS_le xs
    have hlt := numberS_lt xs
    have HC := fun (W : World) (hr : Reads W v xs) => number_any v xs W hr hby
    generalize numberS xs = q at HC hle hlt hP
    obtain ⟨x, n⟩ := q
    simp only at HC hle hlt hP
    have HCC := Lib.hid HC; clear HC
    have hmw : IntKind.u64.wrap ((mn : Nat) : Int) = (mn : Int) := IntWalk.u64_in _ (by have := hmost.out; omega)
    have HP := Lib.hid hP; clear hP
    have HLT := Lib.hid hlt; clear hlt
    by_cases hn : n = 0
    · have hI : pieceS xs mn 0 = ([], xs, 6) := by rw [HP.out, if_pos hn]
      rw [hI]
      clear hI HP h
      subst hn
      go_enter Tryd.func74, Tryd.ntmps74
      go_wp2_with fail
      refine HRF.out.mono ?_
      rintro e w1 ⟨rfl, hr1, hk1⟩
      have c0 := hr1.cell0; have c1 := hr1.cell1; have f1 := hr1.free1; have hb1 := hr1.lt
      have HR1 := Lib.hid hr1; clear hr1
      go_wp2_with fail
      refine (HCC.out w1 HR1.out.reads).mono ?_
      rintro e w' ⟨rfl, rfl⟩
      go_wp2_with fail
      go_ret
      exact ⟨_, v, rfl, Or.inl ⟨rfl, rfl⟩, Or.inl rfl, HR1.out.setErr 6, rfl, hk1.trans (Kept.setCell (fun k => k = rb) _ _ _ rfl) (fun _ _ h => h) (fun _ _ h => h)⟩
    · have hnb : ((n : Int) == 0) = false := by simp; omega
      by_cases hx : (mn : Int) < (x : Int)
      · have hI : pieceS xs mn 0 = ([], xs, 3) := by rw [HP.out, if_neg hn, if_pos hx]
        rw [hI]
        clear hI HP h hn
        go_enter Tryd.func74, Tryd.ntmps74
        go_wp2_with fail
        refine HRF.out.mono ?_
        rintro e w1 ⟨rfl, hr1, hk1⟩
        have c0 := hr1.cell0; have c1 := hr1.cell1; have f1 := hr1.free1; have hb1 := hr1.lt
        have HR1 := Lib.hid hr1; clear hr1
        go_wp2_with fail
        refine (HCC.out w1 HR1.out.reads).mono ?_
        rintro e w' ⟨rfl, rfl⟩
        go_wp2_with fail
        go_ret
        exact ⟨_, v, rfl, Or.inl ⟨rfl, rfl⟩, Or.inl rfl, HR1.out.setErr 3, rfl, hk1.trans (Kept.setCell (fun k => k = rb) _ _ _ rfl) (fun _ _ h => h) (fun _ _ h => h)⟩
      · -- the bytes are no nil slice, as a number is there
        have hreads := h.reads
        rcases hreads with ⟨_, hx2⟩ | ⟨g, off, cap, hv, h1, h2, h3, h4⟩
        · rw [hx2] at hle; simp at hle; omega
        · subst hv
          have hcap : cap ≤ 9223372036854775807 := by unfold maxLen at h2; omega
          obtain ⟨d, hd⟩ : ∃ d, d = xs.length - n := ⟨_, rfl⟩
          rw [← hd] at HP
          have HMW := Lib.hid hmw
          have hd1 : ((xs.length : Int) - (n : Int)) = (d : Int) := by omega
          have hdw : IntKind.u64.wrap (d : Int) = (d : Int) := IntWalk.u64_in _ (by omega)
          have hxi : ¬ ((mn : Int) < (x : Int)) := hx
          have HD := Lib.hid hd; clear hd
          have H2 := Lib.hid h2; clear h2
          by_cases hx2 : (d : Int) < (x : Int)
          · have hI : pieceS xs mn 0 = ([], xs, 6) := by rw [HP.out, if_neg hn, if_neg hx, if_pos (by omega)]
            rw [hI]
            clear hI HP h hn hx h4 hmw HLT hmost hle
            have hmw : IntKind.u64.wrap ((mn : Nat) : Int) = (mn : Int) := HMW.out
            go_enter Tryd.func74, Tryd.ntmps74
            go_wp2_with fail
            refine HRF.out.mono ?_
            rintro e w1 ⟨rfl, hr1, hk1⟩
            have c0 := hr1.cell0; have c1 := hr1.cell1; have f1 := hr1.free1; have hb1 := hr1.lt
            have HR1 := Lib.hid hr1; clear hr1
            go_wp2_with fail
            refine (HCC.out w1 HR1.out.reads).mono ?_
            rintro e w' ⟨rfl, rfl⟩
            go_wp2_with fail
            go_ret
            exact ⟨_, _, rfl, Or.inl ⟨rfl, rfl⟩, Or.inl rfl, HR1.out.setErr 6, rfl, hk1.trans (Kept.setCell (fun k => k = rb) _ _ _ rfl) (fun _ _ h => h) (fun _ _ h => h)⟩
          · have hI : pieceS xs mn 0 = ((xs.drop n).take x, xs.drop (n + x), 0) := by rw [HP.out, if_neg hn, if_neg hx, if_neg (by omega)]
            rw [hI]
            clear hI HP h hn hx h4 hmw HLT hmost hle
            have hmw : IntKind.u64.wrap ((mn : Nat) : Int) = (mn : Int) := HMW.out
            have hxd : (x : Int) ≤ (d : Int) := by omega
            have hxw : IntKind.i64.wrap (x : Int) = (x : Int) := IntWalk.i64_in _ (by omega)
            obtain ⟨s, hs⟩ : ∃ s, s = n + x := ⟨_, rfl⟩
            have hs1 : ((n : Int) + (x : Int)) = (s : Int) := by omega
            have hsw : IntKind.i64.wrap (s : Int) = (s : Int) := IntWalk.i64_in _ (by have := HD.out; omega)
            have hsl : s ≤ xs.length := by have := HD.out; omega
            have hn0 : (0 : Int) ≤ (n : Int) := by omega
            have hns : (n : Int) ≤ (s : Int) := by omega
            have hsc : (s : Int) ≤ (cap : Int) := by omega
            have HS := Lib.hid hs; clear hs
            go_enter Tryd.func74, Tryd.ntmps74
            go_wp2_with fail
            refine HRF.out.mono ?_
            rintro e w1 ⟨rfl, hr1, hk1⟩
            have c0 := hr1.cell0; have c1 := hr1.cell1; have f1 := hr1.free1; have hb1 := hr1.lt
            have HR1 := Lib.hid hr1; clear hr1
            go_wp2_with fail
            refine (HCC.out w1 HR1.out.reads).mono ?_
            rintro e w' ⟨rfl, rfl⟩
            go_wp2_with fail
            refine (take_at w1 rb g off xs.length cap s h1 hcap hsl c0 HR1.out.free0).mono ?_
            rintro e w2 ⟨rfl, rfl⟩
            have hap : g ≠ rb := fun e => HR1.out.apart (by simp [Value.ownBlock, e])
            have hk2 := Kept.setCell (fun k => k = rb) w1 ⟨rb, 0, none⟩ (.slice (some ⟨g, if s = cap then off else off + s, none⟩) (xs.length - s) (cap - s)) rfl
            have hr2 : Reads w1 (.slice (some ⟨g, if s = cap then off else off + s, none⟩) (xs.length - s) (cap - s)) (xs.drop s) := by
              by_cases hnc : s = cap
              · rw [if_pos hnc]
                refine Or.inr ⟨g, off, cap - s, by simp, by simp; omega, by unfold maxLen; omega, Nat.lt_of_lt_of_le h3 hk1.size, fun i hi => ?_⟩
                simp at hi; omega
              · rw [if_neg hnc]
                exact Reads.drop s HR1.out.reads hsl
            have hrd2 := HR1.out.setLeft hr2 (by simpa [Value.ownBlock] using hap)
            have hpr : Reads w1 (.slice (some ⟨g, if n = cap then off else off + n, none⟩) x (cap - n)) ((xs.drop n).take x) := by
              have hHS := HS.out
              by_cases hnc : n = cap
              · rw [if_pos hnc]
                have hx0 : x = 0 := by omega
                subst hx0
                exact Or.inr ⟨g, off, cap - n, by simp, by simp, by unfold maxLen; omega, Nat.lt_of_lt_of_le h3 hk1.size, fun i hi => by simp at hi⟩
              · rw [if_neg hnc]
                have hd2 := Reads.drop n HR1.out.reads (by omega)
                have hl2 : (xs.drop n).length = xs.length - n := by simp
                rw [← hl2] at hd2
                exact Reads.take x hd2 (by omega)
            have hpr2 := hpr.kept hk2 (by simpa [Value.ownBlock] using hap)
            have hsn : s - n = x := by have := HS.out; omega
            have HK2 := Lib.hid hk2; have HRD2 := Lib.hid hrd2; have HPR2 := Lib.hid hpr2; clear hk2 hrd2 hpr2 hpr hr2
            generalize (if s = cap then off else off + s) = off2 at HK2 HRD2 HPR2 ⊢
            have HSN := Lib.hid hsn; clear hsn
            by_cases hnc : n = cap
            · have hnc1 : cap = n := hnc.symm
              have hsn2 : s = n := by omega
              rw [if_pos hnc] at HPR2
              have HX0 : Hid (x = 0) := by show _ = _; have := HS.out; omega
              subst hnc1
              have HSS := Lib.hid hsn2
              subst hsn2
              have e1 : Hid (xs.length - s = 0) := by show _ = _; omega
              go_wp2_with fail
              go_ret
              have a1 := HRD2.out; have a2 := HPR2.out; have a3 := HK2.out
              rw [e1.out, Nat.sub_self] at a1 a2 a3
              have hsx : s + x = s := by rw [HX0.out]; rfl
              rw [hsx]
              rw [HX0.out] at a2 ⊢
              exact ⟨_, _, rfl, a2, Or.inr rfl, a1, rfl, hk1.trans a3 (fun _ _ h => h) (fun _ _ h => h)⟩
            · rw [if_neg hnc] at HPR2
              have hnc' : ¬ cap = n := by omega
              clear hnc
              go_wp2_with fail
              go_ret
              have a2 := HPR2.out
              rw [← HSN.out] at a2
              have hsn := HSN.out
              refine ⟨_, .slice (some ⟨g, off2, none⟩) (xs.length - s) (cap - s), rfl, ?_, Or.inr rfl, ?_, rfl, hk1.trans HK2.out (fun _ _ h => h) (fun _ _ h => h)⟩
              · rw [hsn] at a2 ⊢; exact a2
              · rw [← HS.out]; exact HRD2.out
  · have hf0 : forErr most err ≠ 0 := by unfold forErr; split <;> omega
    have hI : pieceS xs most err = ([], xs, forErr most err) := by
      unfold pieceS forErr
      by_cases h1 : err = 0
      · rw [if_neg (by simpa using h1), if_pos (by omega), if_pos (by omega)]
      · rw [if_pos h1, if_neg (by omega)]
    rw [hI]
    rw [show decide (forErr most err = 0) = false by simpa using hf0] at hrf
    have HRF := Lib.hid hrf; clear hrf hI h
    go_enter Tryd.func74, Tryd.ntmps74
    go_wp2_with fail
    refine HRF.out.mono ?_
    rintro e w1 ⟨rfl, hr1, hk1⟩
    go_wp2_with fail
    go_ret
    exact ⟨_, v, rfl, Or.inl ⟨rfl, rfl⟩, Or.inl rfl, hr1, rfl, hk1⟩

end Go.Proofs.YtneappinkfhjmaaDoor
