/-
  arbaclaw08.NamesKeeps: the walk of the law.
-/
import Derived.Test.YtneappinkfhjmaaDoorNamKa
import Derived.Test.YtneappinkfhjmaaDoorNamAd
import Derived.Test.YtneappinkfhjmaaDoorRStr
import Derived.Test.YtneappinkfhjmaaDoorRead2
import Derived.Deep.RegionLaw
import Derived.Deep.DrawnRows
namespace Go.Proofs.YtneappinkfhjmaaDoor
open Go.RowKit
attribute [local go_sem ↓] Go.wp_at_zero Go.wp_at_succ
set_option linter.unusedSimpArgs false
set_option linter.unusedVariables false

/-- What the loop keeps that adds the words. -/
structure NkInv (w wr : World) (g : Nat) (xs : List ByteArray) (k : Nat) : Prop where
  tab : ∃ v m n D, TabAt wr g xs v m n D
  good : Good xs
  asc : ∀ x ∈ xs, ∀ b ∈ x.data.toList, b.toNat < 128
  len : xs.length ≤ k
  kept : Kept (fun _ => False) w wr
theorem NkInv.on {w a b : World} {g : Nat} {xs : List ByteArray} {k m : Nat} (h : NkInv w a g xs k) (hk : Kept (fun _ => False) a b) (hm : k ≤ m) : NkInv w b g xs m := by
  obtain ⟨v, m', n, D, ht⟩ := h.tab
  exact ⟨⟨v, m', n, D, ht.stay hk⟩, h.good, h.asc, Nat.le_trans h.len hm, h.kept.then hk⟩

/-- What the loop keeps that turns the list to capitals. -/
structure Upper (w wr : World) (gb L k : Nat) (xs : List ByteArray) : Prop where
  cell : ∀ j, j < L → ∃ s : ByteArray, wr.cell? ⟨gb, j, none⟩ = some (.string s) ∧ (k ≤ j → s = xs.getD j ⟨#[]⟩)
  free : ∀ j, j < L → wr.frozen? ⟨gb, j, none⟩ = false
  lt : gb < w.heap.size
  kept : Kept (fun i => i = gb) w wr
theorem Upper.on {w a b : World} {gb L k : Nat} {xs : List ByteArray} (h : Upper w a gb L k xs) (hk : Kept (fun _ => False) a b) : Upper w b gb L k xs := by
  have hl : gb < a.heap.size := Nat.lt_of_lt_of_le h.lt h.kept.size
  refine ⟨fun j hj => ?_, fun j hj => (hk.frozen (p := ⟨gb, j, none⟩) hl (fun h => h)).trans (h.free j hj), h.lt, h.kept.trans hk (fun _ _ h => h) (fun _ _ h => h.elim)⟩
  obtain ⟨s, h1, h2⟩ := h.cell j hj
  exact ⟨s, (hk.cell (p := ⟨gb, j, none⟩) hl (fun h => h)).trans h1, h2⟩
theorem Upper.put {w wr : World} {gb L k : Nat} {xs : List ByteArray} (h : Upper w wr gb L k xs) (hk : k < L) (x : ByteArray) : Upper w (wr.setCell ⟨gb, k, none⟩ (.string x)) gb L (k + 1) xs := by
  refine ⟨fun j hj => ?_, fun j hj => ?_, h.lt, h.kept.trans (Kept.setCell (fun i => i = gb) wr ⟨gb, k, none⟩ _ rfl) (fun _ _ h => h) (fun _ _ h => h)⟩
  · obtain ⟨s, hs, h2⟩ := h.cell j hj
    by_cases e : j = k
    · subst e
      exact ⟨x, World.cell?_setCell_same _ _ _ hs, fun h => by omega⟩
    · exact ⟨s, (World.cell?_setCell_other _ _ _ _ (fun e2 => e (by first | (simp at e2; done) | (simp at e2; omega)))).trans hs, fun h => h2 (by omega)⟩
  · rw [World.frozen?_setCell]; exact h.free j hj
theorem Upper.start {w : World} {B gb L c : Nat} {xs : List ByteArray} (h : w.ownsRow B 9 1 (.slice (some ⟨gb, 0, none⟩) L c) L (xs.map Value.string)) (hl : L = xs.length) : Upper w w gb L 0 xs := by
  subst hl
  have hs := strs_own h
  refine ⟨fun j hj => ?_, fun j hj => ?_, ?_, Kept.refl _ _⟩
  · obtain ⟨g, off, e, _, hc⟩ := hs.at (k := j) hj
    rcases h.2 with ⟨e0, _⟩ | ⟨g', cap, cur, e0, _⟩
    · cases e0
    · cases e0
      cases e
      rw [Nat.zero_add] at hc
      exact ⟨_, hc, fun _ => rfl⟩
  · rcases h.2 with ⟨e0, _⟩ | ⟨g', cap, cur, e0, _, hh, _⟩
    · cases e0
    · cases e0
      simp [World.frozen?, hh]
  · rcases h.2 with ⟨e0, _⟩ | ⟨g', cap, cur, e0, _, hh, _⟩
    · cases e0
    · cases e0
      exact (Array.getElem?_eq_some_iff.1 hh).1

/-- A byte of a fresh row: its cell, and that it may be written. -/
theorem fresh_at {w : World} {B : Nat} {v : Value} {zs : List Nat} (h : Fresh w B v zs) {k : Nat} (hk : k < zs.length) : ∃ gb c, v = .slice (some ⟨gb, 0, none⟩) zs.length c ∧ B ≤ gb ∧ w.cell? ⟨gb, k, none⟩ = some (.int .u8 (zs.getD k 0 : Nat)) ∧ w.frozen? ⟨gb, k, none⟩ = false := by
  have hr := h.reads
  rcases h.own.2 with ⟨e0, h0⟩ | ⟨g', cap, cur, e0, _, hh, _⟩
  · omega
  · subst e0
    rcases hr with ⟨e1, _⟩ | ⟨g2, off2, cap2, e1, _, _, _, h4⟩
    · cases e1
    · cases e1
      refine ⟨_, _, rfl, h.block _ rfl, ?_, by simp [World.frozen?, hh]⟩
      have := h4 k hk
      rwa [Nat.zero_add] at this

set_option maxRecDepth 100000 in
set_option maxHeartbeats 12800000 in
theorem nkeeps_law (a : Option Addr) (l c : Nat) (ns : List Nat) (more : ByteArray) (w : World) (h : InBytes w (.slice a l c) ns) (hmz : more.size ≤ maxLen) :
    Calls Tryd.prog 3 #[.slice a l c, .string more] w fun e w' => e = .returned (.bool true) ∧ Kept (fun _ => False) w w' := by
  have H := Lib.hid h
  obtain ⟨m12, hm12⟩ : ∃ m, m = min more.size 12 := ⟨_, rfl⟩
  have hmi : min (more.size : Int) 12 = (m12 : Int) := by omega
  have hm0 : (0 : Int) ≤ (m12 : Int) := by omega
  have hm1 : (m12 : Int) ≤ (more.size : Int) := by omega
  have hm2 : m12 ≤ more.size := by omega
  have hcz : (more.extract 0 m12).size ≤ 12 := by rw [ByteArray.size_extract]; omega
  unfold maxLen at hmz
  have hmz2 : more.size ≤ 9223372036854775807 := by omega
  clear h hm12 hmz
  go_enter Tryd.func3, Tryd.ntmps3
  go_wp2_with fail
  refine (awake8_any w).mono ?_
  rintro e w0 ⟨rfl, k0⟩
  have K0 := Lib.hid k0
  clear k0
  go_wp2_with fail
  refine (tnew_any w0).mono ?_
  rintro e w1 ⟨rfl, ht1, k1, _⟩
  have K1 := Lib.hid (K0.out.then k1)
  have T1 := Lib.hid ht1
  clear k1 ht1
  generalize w0.heap.size + 1 = g1 at T1 ⊢
  generalize w0.heap.size = m1 at T1
  have hin := H.out.reads.kept K1.out (fun _ _ h => h)
  go_wp2_with fail
  refine (words8_any a l c ns w1 ⟨hin, H.out.byte⟩).mono ?_
  rintro e w2 ⟨yv, rfl, hwd⟩
  obtain ⟨ya, yc, hyf, _, hym⟩ := (strs_own hwd.row).form
  have hyl : (textsOf (ns.take 24)).length ≤ 24 := by rw [textsOf_length, List.length_take]; omega
  have hys : ∀ x ∈ textsOf (ns.take 24), x.size ≤ 13 := textsOf_short _
  have HY := Lib.hid (strs_own hwd.row)
  have K2 := Lib.hid (K1.out.then hwd.kept)
  have I2 : Hid (NkInv w2 w2 g1 [] 0) := ⟨⟨_, _, _, _, T1.out.stay hwd.kept⟩, Good.nil, by simp, by simp, Kept.refl _ _⟩
  have HYS := Lib.hid hys
  subst hyf
  clear hin hwd T1 hys hym H
  generalize textsOf (ns.take 24) = ys at HY HYS hyl ⊢
  obtain ⟨Y, hY⟩ : ∃ Y, Y = ys.length := ⟨_, rfl⟩
  rw [← hY] at HY hyl ⊢
  have HYL := Lib.hid hY
  clear hY
  go_wp2_with fail
  go_loopw [5, 25] (fun pv iv wr => ∃ k g : Nat, k ≤ Y ∧ iv = .int .i64 k ∧ pv = .pointer (some ⟨g, 0, none⟩) ∧ Hid (∃ xs, NkInv w2 wr g xs k)) (fun _ iv _ => Y - (intOf iv).toNat)
  case atStart => exact ⟨0, g1, by omega, rfl, rfl, ⟨[], I2.out⟩⟩
  case round =>
    obtain ⟨k, g, hk, rfl, rfl, hinv⟩ := hrel
    obtain ⟨xs, hin⟩ := hinv.out
    have HIN := Lib.hid hin
    clear hin hinv I2
    by_cases hlt : k < Y
    · have l1 : (k : Int) < (Y : Int) := by omega
      have l0 : (0 : Int) ≤ (k : Int) := by omega
      obtain ⟨gy, oy, rfl, _, hcell⟩ := (HY.out.kept HIN.out.kept (fun _ _ h => h)).at (k := k) (by have := HYL.out; omega)
      have hs13 : (ys.getD k ⟨#[]⟩).size ≤ 13 := by
        have hk2 : k < ys.length := by have := HYL.out; omega
        exact HYS.out _ (by simp [List.getD, hk2])
      generalize ys.getD k ⟨#[]⟩ = s at hcell hs13
      obtain ⟨v, m, n, D, ht⟩ := HIN.out.tab
      by_cases hr : refS xs s 100 = 0
      · have HA := Lib.hid (add_ok s 100 wr g xs v m n D ht hr)
        have HR := Lib.hid hr
        generalize (xs.length + 1 : Nat) = N1 at HA
        clear hr ht
        go_wp2_with fail
        refine HA.out.mono ?_
        rintro e w4 ⟨g4, rfl, ⟨v4, m4, n4, D4, ht4, _, _⟩, _, k4⟩
        have HI4 : Hid (∃ xs, NkInv w2 w4 g4 xs (k + 1)) := ⟨xs ++ [s], ⟨_, _, _, _, ht4⟩, HIN.out.good.snoc HR.out, fun x hx => by
            rcases List.mem_append.1 hx with hx | hx
            · exact HIN.out.asc x hx
            · rw [List.mem_singleton.1 hx]; exact valid_ascii (refS_valid HR.out), by have := HIN.out.len; simp; omega, HIN.out.kept.then k4⟩
        clear ht4 k4 HA HR
        go_wp2_with fail
        go_roundw
        case rel => first | exact ⟨k + 1, g4, by omega, by go_num, rfl, HI4⟩ | ((repeat apply Exists.intro); exact ⟨⟨k + 1, g4, by omega, by go_num, rfl, HI4⟩, rfl⟩)
        case measure => simp [intOf]; omega
      · have hA := add_no s 100 wr g xs v m n D ht (by unfold maxLen; omega) hr
        have hrb : ((refS xs s 100 : Int) == 0) = false := beq_eq_false_iff_ne.2 hr
        generalize refS xs s 100 = R at hA hr hrb
        have HA := Lib.hid hA
        clear hA ht
        go_wp2_with fail
        refine HA.out.mono ?_
        rintro e w4 ⟨rfl, k4⟩
        have HI4 : Hid (∃ xs, NkInv w2 w4 g xs (k + 1)) := ⟨xs, HIN.out.on k4 (by omega)⟩
        clear k4 HA
        go_wp2_with fail
        go_roundw
        case rel => first | exact ⟨k + 1, g, by omega, by go_num, rfl, HI4⟩ | ((repeat apply Exists.intro); exact ⟨⟨k + 1, g, by omega, by go_num, rfl, HI4⟩, rfl⟩)
        case measure => simp [intOf]; omega
    · obtain rfl : k = Y := by omega
      have l1 : ¬ (k : Int) < (k : Int) := by omega
      obtain ⟨v, m, n, D, ht⟩ := HIN.out.tab
      have HT := Lib.hid ht
      have hxl := HIN.out.len
      have HXS := Lib.hid HIN.out.good.short
      have HAS := Lib.hid HIN.out.asc
      have K3 := Lib.hid (K2.out.then HIN.out.kept)
      obtain ⟨wz, hwz⟩ : ∃ wz : World, wz = wr := ⟨_, rfl⟩
      rw [← hwz] at HT K3 ⊢
      obtain ⟨N, hN⟩ : ∃ N, N = xs.length := ⟨_, rfl⟩
      have hNb : N ≤ 24 := by omega
      have HN := Lib.hid hN
      obtain ⟨E, hE⟩ : ∃ E, E = enc xs.length ++ encL xs := ⟨_, rfl⟩
      have hEb : ∀ b ∈ E, b < 256 := by rw [hE]; exact enc8_byte xs
      have hEl : E.length ≤ 1000 := by
        have h1 := encL_len xs HXS.out
        have h2 := enc_len (v := xs.length) (by omega)
        rw [hE, List.length_append]; omega
      have HE := Lib.hid hE; have HEB := Lib.hid hEb
      have HNM0 := Lib.hid (fun W (hk : Kept (fun _ => False) wz W) => tnames_any W g xs v m n D (HT.out.stay hk))
      have HBY0 := Lib.hid (fun W (hk : Kept (fun _ => False) wz W) => (tbytes_any W g xs v m n D (HT.out.stay hk)))
      rw [← hE] at HBY0
      have HAD := Lib.hid (fun W (hk : Kept (fun _ => False) wz W) s (hs : s.size ≤ 12) => add_some8 s W g xs v m n D (HT.out.stay hk) (by unfold maxLen; omega))
      clear ht hwz HIN hxl hN hE hEb HYS HYL HY hyl hlt hk
      clear l1
      go_wp2_with fail
      refine (HNM0.out _ (Kept.refl _ _)).mono ?_
      rintro e w3 ⟨vw, rfl, hown, k3⟩
      have HW := Lib.hid (strs_own hown)
      obtain ⟨wa, wc, rfl, _, _⟩ := (strs_own hown).form
      rw [← HN.out] at HW ⊢
      have Z3 := Lib.hid k3
      clear hown k3
      go_wp2_with fail
      refine (HBY0.out _ Z3.out).mono ?_
      rintro e w4 ⟨vb, rfl, hfb, k4⟩
      have HB := Lib.hid hfb.reads
      obtain ⟨ba, bc, hvbe⟩ := hfb.reads.form8
      subst hvbe
      obtain ⟨bn, hbn⟩ : ∃ bn, bn = E.length := ⟨_, rfl⟩
      rw [← hbn] at HB ⊢
      have HBN := Lib.hid hbn
      have Z4 := Lib.hid (Z3.out.then k4)
      have HW4 := Lib.hid (HW.out.kept k4 (fun _ _ h => h))
      clear hfb k4 hbn HW
      go_wp2_with fail
      refine (HAD.out _ Z4.out _ hcz).mono ?_
      rintro e w5 ⟨x5, y5, z5, rfl, k5⟩
      have Z5 := Lib.hid (Z4.out.then k5)
      have HW5 := Lib.hid (HW4.out.kept k5 (fun _ _ h => h)); have HB5 := Lib.hid (HB.out.kept k5 (fun _ _ h => h))
      clear k5 HW4 HB hmi hm0 hm1 hm2 hcz hmz2
      go_wp2_with fail
      refine (HAD.out _ Z5.out _ (by simp [ByteArray.size])).mono ?_
      rintro e w6 ⟨x6, y6, z6, rfl, k6⟩
      have Z6 := Lib.hid (Z5.out.then k6)
      have HW6 := Lib.hid (HW5.out.kept k6 (fun _ _ h => h)); have HB6 := Lib.hid (HB5.out.kept k6 (fun _ _ h => h))
      clear k6 HW5 HB5
      go_wp2_with fail
      refine (HAD.out _ Z6.out _ (by simp [ByteArray.size])).mono ?_
      rintro e w7 ⟨x7, y7, z7, rfl, k7⟩
      have Z7 := Lib.hid (Z6.out.then k7)
      have HW7 := Lib.hid (HW6.out.kept k7 (fun _ _ h => h)); have HB7 := Lib.hid (HB6.out.kept k7 (fun _ _ h => h))
      clear k7 HW6 HB6
      go_wp2_with fail
      refine (HNM0.out _ Z7.out).mono ?_
      rintro e w8 ⟨vg, rfl, hown8, k8⟩
      have hW8 := HW7.out.kept k8 (fun _ _ h => h); have hB8 := HB7.out.kept k8 (fun _ _ h => h)
      obtain ⟨ga, gc, hvg, _, _⟩ := (strs_own hown8).form
      subst hvg
      rw [← HN.out] at hown8 ⊢
      have hga : 0 < N → ∃ gb, ga = some ⟨gb, 0, none⟩ ∧ w7.heap.size ≤ gb := fun h0 => by
        have hb := hown8.lt
        rcases hown8.2 with ⟨e0, h1⟩ | ⟨g', cap, cur, e0, hb', _⟩
        · omega
        · cases e0; exact ⟨_, rfl, hb'⟩
      have HUP : Hid (∀ gb, ga = some ⟨gb, 0, none⟩ → Upper w8 w8 gb N 0 xs) := fun gb e => by
        subst e
        exact Upper.start hown8 HN.out
      have HGA := Lib.hid hga
      have Z78 := Lib.hid k8
      clear hown8 k8 hga hW8 hB8
      go_wp2_with fail
      go_loopw [14, 59] (fun _ iv wr => ∃ k : Nat, k ≤ N ∧ iv = .int .i64 k ∧ Hid ((N = 0 ∧ wr = w8) ∨ ∃ gb, ga = some ⟨gb, 0, none⟩ ∧ w7.heap.size ≤ gb ∧ Upper w8 wr gb N k xs)) (fun _ iv _ => N - (intOf iv).toNat)
      case atStart =>
        refine ⟨0, by omega, rfl, ?_⟩
        by_cases h0 : N = 0
        · exact Or.inl ⟨h0, rfl⟩
        · obtain ⟨gb, e, hb⟩ := HGA.out (by omega)
          exact Or.inr ⟨gb, e, hb, HUP.out gb e⟩
      case round =>
        obtain ⟨k2, hk2, rfl, hup⟩ := hrel
        by_cases hlt2 : k2 < N
        · have l1 : (k2 : Int) < (N : Int) := by omega
          have l0 : (0 : Int) ≤ (k2 : Int) := by omega
          obtain ⟨gb, hge, hgb, hU⟩ : ∃ gb, ga = some ⟨gb, 0, none⟩ ∧ w7.heap.size ≤ gb ∧ Upper w8 wr gb N k2 xs := by
            rcases hup.out with ⟨h0, _⟩ | h
            · omega
            · exact h
          subst hge
          obtain ⟨s, hsc, hse0⟩ := hU.cell k2 hlt2
          have hse := hse0 (Nat.le_refl _)
          clear hse0
          have hsm : s ∈ xs := by
            rw [hse]
            have : k2 < xs.length := by have := HN.out; omega
            simp [List.getD, this]
          have HUC := Lib.hid (fun W => upper_any s W (by have := HXS.out s hsm; omega) (HAS.out s hsm))
          have HU := Lib.hid hU
          clear hup hse hsm hU
          go_wp2_with fail
          refine (HUC.out _).mono ?_
          rintro e w9 ⟨t9, rfl, k9⟩
          have hU9 := HU.out.on k9
          obtain ⟨s9, hs9, -⟩ := hU9.cell k2 hlt2
          have hf9 := hU9.free k2 hlt2
          have HU9 := Lib.hid (Or.inr ⟨gb, rfl, hgb, hU9.put hlt2 t9⟩ : (N = 0 ∧ w9.setCell ⟨gb, k2, none⟩ (.string t9) = w8) ∨ ∃ gb', (some ⟨gb, 0, none⟩ : Option Addr) = some ⟨gb', 0, none⟩ ∧ w7.heap.size ≤ gb' ∧ Upper w8 (w9.setCell ⟨gb, k2, none⟩ (.string t9)) gb' N (k2 + 1) xs)
          clear k9 hU9 HU HUC hsc
          go_wp2_with fail
          go_roundw
          case rel => first | exact ⟨k2 + 1, by omega, by go_num, HU9⟩ | ((repeat apply Exists.intro); exact ⟨⟨k2 + 1, by omega, by go_num, HU9⟩, rfl⟩)
          case measure => simp [intOf]; omega
        · obtain rfl : k2 = N := by omega
          have k7r : Kept (fun _ => False) w7 wr := by
            rcases hup.out with ⟨_, e⟩ | ⟨gb, _, hgb, hU⟩
            · rw [e]; exact Z78.out
            · exact Z78.out.trans hU.kept (fun _ _ h => h) (fun i hi e => by have e : i = gb := e; omega)
          have Z8 := Lib.hid (Z7.out.then k7r)
          have HW8 := Lib.hid (HW7.out.kept k7r (fun _ _ h => h)); have HB8 := Lib.hid (HB7.out.kept k7r (fun _ _ h => h))
          obtain ⟨wy, hwy⟩ : ∃ wy : World, wy = wr := ⟨_, rfl⟩
          rw [← hwy] at Z8 HW8 HB8 ⊢
          clear k7r hup hwy HW7 HB7 HGA HUP Z78
          go_wp2_with fail
          refine (HBY0.out _ Z8.out).mono ?_
          rintro e w10 ⟨v10, rfl, hf10, k10⟩
          obtain ⟨a10, c10, hv10e⟩ := hf10.reads.form8
          subst hv10e
          rw [← HBN.out]
          have Z10 := Lib.hid (Z8.out.then k10)
          have HW10 := Lib.hid (HW8.out.kept k10 (fun _ _ h => h)); have HB10 := Lib.hid (HB8.out.kept k10 (fun _ _ h => h))
          have hbl : bn ≤ 1000 := by have := HBN.out; omega
          clear hf10 k10 HW8 HB8
          go_wp2_with fail
          go_loopw [15, 74] (fun _ iv wr => ∃ k : Nat, k ≤ bn ∧ iv = .int .i64 k ∧ Hid (Kept (fun _ => False) w10 wr)) (fun _ iv _ => bn - (intOf iv).toNat)
          case atStart => exact ⟨0, by omega, rfl, Kept.refl _ _⟩
          case round =>
            obtain ⟨k3, hk3, rfl, hk10⟩ := hrel
            by_cases hlt3 : k3 < bn
            · have l1 : (k3 : Int) < (bn : Int) := by omega
              have l0 : (0 : Int) ≤ (k3 : Int) := by omega
              have HBYr := Lib.hid (HBY0.out wr (Z10.out.then hk10.out))
              go_wp2_with fail
              refine HBYr.out.mono ?_
              rintro e w11 ⟨v11, rfl, hf11, k11⟩
              obtain ⟨gb, cb, rfl, hgb, hc11, hf11'⟩ := fresh_at hf11 (k := k3) (by have := HBN.out; omega)
              rw [← HBN.out]
              generalize E.getD k3 0 = z at hc11
              have HK11 : ∀ x, Hid (Kept (fun _ => False) w10 (w11.setCell ⟨gb, k3, none⟩ x)) := fun x => hk10.out.then (k11.trans (Kept.setCell (fun i => i = gb) w11 ⟨gb, k3, none⟩ x rfl) (fun _ _ h => h) (fun i hi e => by have e : i = gb := e; omega))
              have HKH := Lib.hid HK11
              clear hf11 k11 HK11 HBYr
              go_wp2_with fail
              go_roundw
              case rel => first | exact ⟨k3 + 1, by omega, by go_num, HKH.out _⟩ | ((repeat apply Exists.intro); exact ⟨⟨k3 + 1, by omega, by go_num, HKH.out _⟩, rfl⟩)
              case measure => simp [intOf]; omega
            · obtain rfl : k3 = bn := by omega
              have Z11 := Lib.hid (Z10.out.then hk10.out)
              have HW11 := Lib.hid (HW10.out.kept hk10.out (fun _ _ h => h)); have HB11 := Lib.hid (HB10.out.kept hk10.out (fun _ _ h => h))
              obtain ⟨wx, hwx⟩ : ∃ wx : World, wx = wr := ⟨_, rfl⟩
              rw [← hwx] at Z11 HW11 HB11 ⊢
              clear hwx hk10 HW10 HB10 Z10
              go_wp2_with fail
              refine (newReader_any wx _ E HB11.out (by omega)).mono ?_
              rintro e w12 ⟨rb, v12, rfl, hrd12, hge12, hv12, k12⟩
              have hcn := rcount_any w12 rb v12 E hrd12 HEB.out
              have hcb : countS E 256 0 = (k2, encL xs, 0) := by rw [HE.out, countS_back _ _ (by have := HN.out; omega), ← HN.out]
              rw [hcb] at hcn
              have HCN := Lib.hid hcn
              have HV12 := Lib.hid hv12
              have K12 := Lib.hid k12
              clear hrd12 hv12 k12 hcn hcb
              go_wp2_with fail
              refine HCN.out.mono ?_
              rintro e w13 ⟨rfl, v13, hrd13, hv13, k13⟩
              have hk13 : Kept (fun _ => False) wx w13 := K12.out.trans k13 (fun _ _ h => h) (fun i hi e => by have e : i = rb := e; omega)
              have K13 := Lib.hid hk13
              have HR13 := Lib.hid hrd13
              have HO13 : Hid (∀ j, v13.ownBlock = some j → wx.heap.size ≤ j) := fun j hj => HV12.out j (by rw [← hv13]; exact hj)
              clear hrd13 hv13 k13 hk13 HCN
              go_wp2_with fail
              go_loopw [94] (fun iv wr => ∃ k : Nat, k ≤ k2 ∧ iv = .int .i64 k ∧ Hid (∃ v, Rd wr rb v (encL (xs.drop k)) 0 ∧ ∀ j, v.ownBlock = some j → wx.heap.size ≤ j) ∧ Hid (Kept (fun _ => False) wx wr)) (fun iv _ => k2 - (intOf iv).toNat)
              case atStart => exact ⟨0, by omega, rfl, ⟨v13, HR13.out, HO13.out⟩, K13⟩
              case round =>
                obtain ⟨k4, hk4, rfl, hrdw, hkw4⟩ := hrel
                obtain ⟨vr, hrd, hvr⟩ := hrdw.out
                by_cases hlt4 : k4 < k2
                · have l1 : (k4 : Int) < (k2 : Int) := by omega
                  have l0 : (0 : Int) ≤ (k4 : Int) := by omega
                  obtain ⟨gw, ow, hwa, _, hcw⟩ := (HW11.out.kept hkw4.out (fun _ _ h => h)).at (k := k4) (by have := HN.out; omega)
                  subst hwa
                  obtain ⟨e1, e2, e3⟩ := read_back xs HXS.out k4 (by have := HN.out; omega)
                  have hrs := rstring_any wr rb vr (encL (xs.drop k4)) 0 12 hrd (encL_byte _) (Lib.hid (by decide))
                  rw [e1, e2, e3] at hrs
                  have hbx : ((xs.getD k4 ⟨#[]⟩).toList != (xs.getD k4 ⟨#[]⟩).toList) = false := by simp
                  generalize xs.getD k4 ⟨#[]⟩ = x at hcw hrs hbx
                  have HRS := Lib.hid hrs
                  have HVR := Lib.hid hvr
                  clear e1 e2 e3 hrs hrd hvr hrdw
                  go_wp2_with fail
                  refine HRS.out.mono ?_
                  rintro e w14 ⟨rfl, v14, hrd14, hv14, k14⟩
                  have HR14 : Hid (∃ v, Rd w14 rb v (encL (xs.drop (k4 + 1))) 0 ∧ ∀ j, v.ownBlock = some j → wx.heap.size ≤ j) := ⟨v14, hrd14, fun j hj => HVR.out j (by rw [← hv14]; exact hj)⟩
                  have HK14 : Hid (Kept (fun _ => False) wx w14) := hkw4.out.trans k14 (fun _ _ h => h) (fun i hi e => by have e : i = rb := e; have := K12.out.size; omega)
                  clear hrd14 hv14 k14
                  go_wp2_with fail
                  go_roundw
                  case rel => first | exact ⟨k4 + 1, by omega, by go_num, HR14, HK14⟩ | ((repeat apply Exists.intro); exact ⟨⟨k4 + 1, by omega, by go_num, HR14, HK14⟩, rfl⟩)
                  case measure => simp [intOf]; omega
                · obtain rfl : k4 = k2 := by omega
                  have hdr : xs.drop k4 = [] := List.drop_of_length_le (by have := HN.out; omega)
                  rw [hdr] at hrd
                  have HEND := Lib.hid (fun W (hk : Kept (fun _ => False) wr W) => (by have := end_any W rb vr [] 0 (hrd.kept hk (fun h => h) (fun _ _ h => h)); exact this : Calls Tryd.prog 22 #[.pointer (some ⟨rb, 0, none⟩)] W fun e w' => e = .returned (.int .i64 0) ∧ W = w'))
                  have ZR := Lib.hid (Z11.out.then hkw4.out)
                  have HNM := Lib.hid (fun W (hk : Kept (fun _ => False) wr W) => (HNM0.out W (ZR.out.then hk)).mono (fun e w' (h : ∃ v', e = .returned v' ∧ w'.ownsRow W.heap.size 9 1 v' xs.length (xs.map Value.string) ∧ Kept (fun _ => False) W w') => (by obtain ⟨v', h1, h2, h3⟩ := h; exact ⟨v', h1, strs_own h2, h3⟩ : ∃ v', e = .returned v' ∧ Strs w' v' xs ∧ Kept (fun _ => False) W w')))
                  have HBY := Lib.hid (fun W (hk : Kept (fun _ => False) wr W) => (HBY0.out W (ZR.out.then hk)).mono (fun e w' (h : ∃ v', e = .returned v' ∧ Fresh w' W.heap.size v' E ∧ Kept (fun _ => False) W w') => (by obtain ⟨v', h1, h2, h3⟩ := h; exact ⟨v', h1, h2.reads, h3⟩ : ∃ v', e = .returned v' ∧ Reads w' v' E ∧ Kept (fun _ => False) W w')))
                  have HSM : Hid (∀ W vn, Kept (fun _ => False) wr W → Strs W vn xs → Calls Tryd.prog 23 #[vn, .slice wa k4 wc] W fun e w' => e = .returned (.bool true) ∧ Kept (fun _ => False) W w') := fun W vn hk hs => by
                    have := rsame8_any vn (.slice wa k4 wc) xs xs W hs ((HW11.out.kept hkw4.out (fun _ _ h => h)).kept hk (fun _ _ h => h))
                    rw [show decide (xs = xs) = true by simp] at this
                    exact this
                  obtain ⟨S, hS⟩ : ∃ S, S = strOfNums (E.map fun n : Nat => (n : Int)) := ⟨_, rfl⟩
                  have HRS : Hid (∀ v W, Reads W v E → (convert 22 9 v).run Tryd.prog W = .ok (.string S) W) := fun v W h => by rw [hS]; exact reads_str h
                  have HRW : Hid (∀ W, Kept (fun _ => False) wr W → (convert 22 9 (.slice ba k3 bc)).run Tryd.prog W = .ok (.string S) W) := fun W hk => HRS.out _ W ((HB11.out.kept hkw4.out (fun _ _ h => h)).kept hk (fun _ _ h => h))
                  have hSS : (S.toList == S.toList) = true := by simp
                  have KF := Lib.hid (K3.out.then ZR.out)
                  clear hrd hvr hrdw hdr hS
                  go_wp2_with fail
                  refine wp_region_any (by kernel_rfl) ?_
                  try (change wpAny _ _ _ _ _ _ _ (World.drew _))
                  have D1 := Lib.hid ((Kept.refl (fun _ => False) wr).drew)
                  refine wpAny_take (i := 0) (v := .pointer (some ⟨rb, 0, none⟩)) rfl (by kernel_rfl) (by kernel_rfl) (by kernel_rfl) (fun _ _ _ h => h) (Or.inl ⟨by simp [Region.wanted, yielded], fun W => by go_simp⟩) ?_
                  try (simp only [Act.put, List.getElem_toArray, List.getElem_cons_succ, List.getElem_cons_zero, List.setIfInBounds_toArray, List.set_cons_zero, List.set_cons_succ])
                  refine wpAny_ready (rs := [1]) (by kernel_rfl) (by simp) ?_
                  refine AllReady.cons (o := _) rfl (fun KK hKK => ?_) AllReady.nil
                  rw [if_pos (by simp [Region.wanted, yielded])]
                  go_simp
                  go_at_call 22
                  refine (HEND.out _ D1.out).mono ?_
                  rintro e we ⟨rfl, rfl⟩

                  go_wp2_with fail
                  try (refine hKK _ _ ?_)
                  try (clear hKK KK)
                  try (simp only [Act.put, List.getElem_toArray, List.getElem_cons_succ, List.getElem_cons_zero, List.setIfInBounds_toArray, List.set_cons_zero, List.set_cons_succ])
                  refine wpAny_take (i := 2) (v := .bool true) rfl (by kernel_rfl) (by kernel_rfl) (by kernel_rfl) (fun _ _ _ h => h) (Or.inl ⟨by simp [Region.wanted, yielded], fun W => by go_simp⟩) ?_
                  try (simp only [Act.put, List.getElem_toArray, List.getElem_cons_succ, List.getElem_cons_zero, List.setIfInBounds_toArray, List.set_cons_zero, List.set_cons_succ])
                  refine wpAny_take (i := 3) (v := .bool true) rfl (by kernel_rfl) (by kernel_rfl) (by kernel_rfl) (fun _ _ _ h => h) (Or.inl ⟨by simp [Region.wanted, yielded], fun W => by go_simp⟩) ?_
                  try (simp only [Act.put, List.getElem_toArray, List.getElem_cons_succ, List.getElem_cons_zero, List.setIfInBounds_toArray, List.set_cons_zero, List.set_cons_succ])
                  refine wpAny_take (i := 4) (v := .pointer (some ⟨g, 0, none⟩)) rfl (by kernel_rfl) (by kernel_rfl) (by kernel_rfl) (fun _ _ _ h => h) (Or.inl ⟨by simp [Region.wanted, yielded], fun W => by go_simp⟩) ?_
                  try (simp only [Act.put, List.getElem_toArray, List.getElem_cons_succ, List.getElem_cons_zero, List.setIfInBounds_toArray, List.set_cons_zero, List.set_cons_succ])
                  refine wpAny_take (i := 6) (v := .slice wa k4 wc) rfl (by kernel_rfl) (by kernel_rfl) (by kernel_rfl) (fun _ _ _ h => h) (Or.inl ⟨by simp [Region.wanted, yielded], fun W => by go_simp⟩) ?_
                  try (simp only [Act.put, List.getElem_toArray, List.getElem_cons_succ, List.getElem_cons_zero, List.setIfInBounds_toArray, List.set_cons_zero, List.set_cons_succ])
                  refine wpAny_ready (rs := [5]) (by kernel_rfl) (by simp) ?_
                  refine AllReady.cons (o := _) rfl (fun KK hKK => ?_) AllReady.nil
                  rw [if_pos (by simp [Region.wanted, yielded])]
                  go_simp
                  go_at_call 16
                  refine (HNM.out _ D1.out).mono ?_
                  rintro e wn ⟨vn, rfl, hsn, kn⟩
                  have D2 := Lib.hid (D1.out.then kn)
                  have HSN := Lib.hid hsn
                  have HSA := Lib.hid (HSM.out wn vn D2.out hsn)
                  clear hsn kn
                  go_wp2_with fail
                  try (refine hKK _ _ ?_)
                  try (clear hKK KK)
                  try (simp only [Act.put, List.getElem_toArray, List.getElem_cons_succ, List.getElem_cons_zero, List.setIfInBounds_toArray, List.set_cons_zero, List.set_cons_succ])
                  refine wpAny_ready (rs := [7]) (by kernel_rfl) (by simp) ?_
                  refine AllReady.cons (o := _) rfl (fun KK hKK => ?_) AllReady.nil
                  rw [if_pos (by simp [Region.wanted, yielded])]
                  go_simp
                  go_at_call 23
                  refine (HSA.out).mono ?_
                  rintro e wm ⟨rfl, km⟩
                  have D3 := Lib.hid (D2.out.then km); clear km
                  have cW := HRW.out _ D3.out
                  go_wp2_with fail
                  try (refine hKK _ _ ?_)
                  try (clear hKK KK)
                  try (simp only [Act.put, List.getElem_toArray, List.getElem_cons_succ, List.getElem_cons_zero, List.setIfInBounds_toArray, List.set_cons_zero, List.set_cons_succ])
                  refine wpAny_take (i := 8) (v := .bool true) rfl (by kernel_rfl) (by kernel_rfl) (by kernel_rfl) (fun _ _ _ h => h) (Or.inl ⟨by simp [Region.wanted, yielded], fun W => by go_simp⟩) ?_
                  try (simp only [Act.put, List.getElem_toArray, List.getElem_cons_succ, List.getElem_cons_zero, List.setIfInBounds_toArray, List.set_cons_zero, List.set_cons_succ])
                  refine wpAny_take (i := 9) (v := .bool true) rfl (by kernel_rfl) (by kernel_rfl) (by kernel_rfl) (fun _ _ _ h => h) (Or.inl ⟨by simp [Region.wanted, yielded], fun W => by go_simp⟩) ?_
                  try (simp only [Act.put, List.getElem_toArray, List.getElem_cons_succ, List.getElem_cons_zero, List.setIfInBounds_toArray, List.set_cons_zero, List.set_cons_succ])
                  refine wpAny_take (i := 10) (v := .pointer (some ⟨g, 0, none⟩)) rfl (by kernel_rfl) (by kernel_rfl) (by kernel_rfl) (fun _ _ _ h => h) (Or.inl ⟨by simp [Region.wanted, yielded], fun W => by go_simp⟩) ?_
                  try (simp only [Act.put, List.getElem_toArray, List.getElem_cons_succ, List.getElem_cons_zero, List.setIfInBounds_toArray, List.set_cons_zero, List.set_cons_succ])
                  refine wpAny_take (i := 13) (v := .slice ba k3 bc) rfl (by kernel_rfl) (by kernel_rfl) (by kernel_rfl) (fun _ _ _ h => h) (Or.inl ⟨by simp [Region.wanted, yielded], fun W => by go_simp⟩) ?_
                  try (simp only [Act.put, List.getElem_toArray, List.getElem_cons_succ, List.getElem_cons_zero, List.setIfInBounds_toArray, List.set_cons_zero, List.set_cons_succ])
                  refine wpAny_ready (rs := [11, 14]) (by kernel_rfl) (by simp) ?_
                  refine AllReady.cons (o := _) rfl (fun KK hKK => ?_) (AllReady.cons (o := _) rfl (fun KK hKK => ?_) AllReady.nil)
                  · rw [if_pos (by simp [Region.wanted, yielded])]
                    go_simp
                    go_at_call 17
                    refine (HBY.out _ D3.out).mono ?_
                    rintro e wb2 ⟨vb, rfl, hfb, kb⟩
                    have D3b := Lib.hid (D3.out.then kb)
                    have cB := HRS.out vb _ hfb
                    have cW := HRW.out _ D3b.out
                    clear kb hfb
                    go_wp2_with fail
                    try (refine hKK _ _ ?_)
                    try (clear hKK KK)
                    try (simp only [Act.put, List.getElem_toArray, List.getElem_cons_succ, List.getElem_cons_zero, List.setIfInBounds_toArray, List.set_cons_zero, List.set_cons_succ])
                    refine wpAny_ready (rs := [12, 14]) (by kernel_rfl) (by simp) ?_
                    refine AllReady.cons (o := _) rfl (fun KK hKK => ?_) (AllReady.cons (o := _) rfl (fun KK hKK => ?_) AllReady.nil)
                    · rw [if_pos (by simp [Region.wanted, yielded])]
                      go_simp
                      try (refine hKK _ _ ?_)
                      try (clear hKK KK)
                      try (simp only [Act.put, List.getElem_toArray, List.getElem_cons_succ, List.getElem_cons_zero, List.setIfInBounds_toArray, List.set_cons_zero, List.set_cons_succ])
                      refine wpAny_ready (rs := [14]) (by kernel_rfl) (by simp) ?_
                      refine AllReady.cons (o := _) rfl (fun KK hKK => ?_) AllReady.nil
                      rw [if_pos (by simp [Region.wanted, yielded])]
                      go_simp
                      try (refine hKK _ _ ?_)
                      try (clear hKK KK)
                      try (simp only [Act.put, List.getElem_toArray, List.getElem_cons_succ, List.getElem_cons_zero, List.setIfInBounds_toArray, List.set_cons_zero, List.set_cons_succ])
                      refine wpAny_take (i := 15) (v := .bool true) rfl (by kernel_rfl) (by kernel_rfl) (by kernel_rfl) (fun _ _ _ h => h) (Or.inl ⟨by simp [Region.wanted, yielded], fun W => by go_simp⟩) ?_
                      try (simp only [Act.put, List.getElem_toArray, List.getElem_cons_succ, List.getElem_cons_zero, List.setIfInBounds_toArray, List.set_cons_zero, List.set_cons_succ])
                      refine wpAny_take (i := 16) (v := .bool true) rfl (by kernel_rfl) (by kernel_rfl) (by kernel_rfl) (fun _ _ _ h => h) (Or.inl ⟨by simp [Region.wanted, yielded], fun W => by go_simp⟩) ?_
                      try (simp only [Act.put, List.getElem_toArray, List.getElem_cons_succ, List.getElem_cons_zero, List.setIfInBounds_toArray, List.set_cons_zero, List.set_cons_succ])
                      refine wpAny_ready (rs := [17]) (by kernel_rfl) (by simp) ?_
                      refine AllReady.cons (o := _) rfl (fun KK hKK => ?_) AllReady.nil
                      rw [if_pos (by simp [Region.wanted, yielded])]
                      go_simp
                      try (refine hKK _ _ ?_)
                      try (clear hKK KK)
                      try (simp only [Act.put, List.getElem_toArray, List.getElem_cons_succ, List.getElem_cons_zero, List.setIfInBounds_toArray, List.set_cons_zero, List.set_cons_succ])
                      refine wpAny_done (by kernel_rfl) ?_ _
                      go_wp2_with fail
                      go_ret
                      exact ⟨rfl, KF.out.then D3b.out⟩
                    · rw [if_pos (by simp [Region.wanted, yielded])]
                      go_simp
                      try (refine hKK _ _ ?_)
                      try (clear hKK KK)
                      try (simp only [Act.put, List.getElem_toArray, List.getElem_cons_succ, List.getElem_cons_zero, List.setIfInBounds_toArray, List.set_cons_zero, List.set_cons_succ])
                      refine wpAny_ready (rs := [12]) (by kernel_rfl) (by simp) ?_
                      refine AllReady.cons (o := _) rfl (fun KK hKK => ?_) AllReady.nil
                      rw [if_pos (by simp [Region.wanted, yielded])]
                      go_simp
                      try (refine hKK _ _ ?_)
                      try (clear hKK KK)
                      try (simp only [Act.put, List.getElem_toArray, List.getElem_cons_succ, List.getElem_cons_zero, List.setIfInBounds_toArray, List.set_cons_zero, List.set_cons_succ])
                      refine wpAny_take (i := 15) (v := .bool true) rfl (by kernel_rfl) (by kernel_rfl) (by kernel_rfl) (fun _ _ _ h => h) (Or.inl ⟨by simp [Region.wanted, yielded], fun W => by go_simp⟩) ?_
                      try (simp only [Act.put, List.getElem_toArray, List.getElem_cons_succ, List.getElem_cons_zero, List.setIfInBounds_toArray, List.set_cons_zero, List.set_cons_succ])
                      refine wpAny_take (i := 16) (v := .bool true) rfl (by kernel_rfl) (by kernel_rfl) (by kernel_rfl) (fun _ _ _ h => h) (Or.inl ⟨by simp [Region.wanted, yielded], fun W => by go_simp⟩) ?_
                      try (simp only [Act.put, List.getElem_toArray, List.getElem_cons_succ, List.getElem_cons_zero, List.setIfInBounds_toArray, List.set_cons_zero, List.set_cons_succ])
                      refine wpAny_ready (rs := [17]) (by kernel_rfl) (by simp) ?_
                      refine AllReady.cons (o := _) rfl (fun KK hKK => ?_) AllReady.nil
                      rw [if_pos (by simp [Region.wanted, yielded])]
                      go_simp
                      try (refine hKK _ _ ?_)
                      try (clear hKK KK)
                      try (simp only [Act.put, List.getElem_toArray, List.getElem_cons_succ, List.getElem_cons_zero, List.setIfInBounds_toArray, List.set_cons_zero, List.set_cons_succ])
                      refine wpAny_done (by kernel_rfl) ?_ _
                      go_wp2_with fail
                      go_ret
                      exact ⟨rfl, KF.out.then D3b.out⟩
                  · rw [if_pos (by simp [Region.wanted, yielded])]
                    go_simp
                    try (refine hKK _ _ ?_)
                    try (clear hKK KK)
                    try (simp only [Act.put, List.getElem_toArray, List.getElem_cons_succ, List.getElem_cons_zero, List.setIfInBounds_toArray, List.set_cons_zero, List.set_cons_succ])
                    refine wpAny_ready (rs := [11]) (by kernel_rfl) (by simp) ?_
                    refine AllReady.cons (o := _) rfl (fun KK hKK => ?_) AllReady.nil
                    rw [if_pos (by simp [Region.wanted, yielded])]
                    go_simp
                    go_at_call 17
                    refine (HBY.out _ D3.out).mono ?_
                    rintro e wb2 ⟨vb, rfl, hfb, kb⟩
                    have D3b := Lib.hid (D3.out.then kb)
                    have cB := HRS.out vb _ hfb
                    have cW := HRW.out _ D3b.out
                    clear kb hfb
                    go_wp2_with fail
                    try (refine hKK _ _ ?_)
                    try (clear hKK KK)
                    try (simp only [Act.put, List.getElem_toArray, List.getElem_cons_succ, List.getElem_cons_zero, List.setIfInBounds_toArray, List.set_cons_zero, List.set_cons_succ])
                    refine wpAny_ready (rs := [12]) (by kernel_rfl) (by simp) ?_
                    refine AllReady.cons (o := _) rfl (fun KK hKK => ?_) AllReady.nil
                    rw [if_pos (by simp [Region.wanted, yielded])]
                    go_simp
                    try (refine hKK _ _ ?_)
                    try (clear hKK KK)
                    try (simp only [Act.put, List.getElem_toArray, List.getElem_cons_succ, List.getElem_cons_zero, List.setIfInBounds_toArray, List.set_cons_zero, List.set_cons_succ])
                    refine wpAny_take (i := 15) (v := .bool true) rfl (by kernel_rfl) (by kernel_rfl) (by kernel_rfl) (fun _ _ _ h => h) (Or.inl ⟨by simp [Region.wanted, yielded], fun W => by go_simp⟩) ?_
                    try (simp only [Act.put, List.getElem_toArray, List.getElem_cons_succ, List.getElem_cons_zero, List.setIfInBounds_toArray, List.set_cons_zero, List.set_cons_succ])
                    refine wpAny_take (i := 16) (v := .bool true) rfl (by kernel_rfl) (by kernel_rfl) (by kernel_rfl) (fun _ _ _ h => h) (Or.inl ⟨by simp [Region.wanted, yielded], fun W => by go_simp⟩) ?_
                    try (simp only [Act.put, List.getElem_toArray, List.getElem_cons_succ, List.getElem_cons_zero, List.setIfInBounds_toArray, List.set_cons_zero, List.set_cons_succ])
                    refine wpAny_ready (rs := [17]) (by kernel_rfl) (by simp) ?_
                    refine AllReady.cons (o := _) rfl (fun KK hKK => ?_) AllReady.nil
                    rw [if_pos (by simp [Region.wanted, yielded])]
                    go_simp
                    try (refine hKK _ _ ?_)
                    try (clear hKK KK)
                    try (simp only [Act.put, List.getElem_toArray, List.getElem_cons_succ, List.getElem_cons_zero, List.setIfInBounds_toArray, List.set_cons_zero, List.set_cons_succ])
                    refine wpAny_done (by kernel_rfl) ?_ _
                    go_wp2_with fail
                    go_ret
                    exact ⟨rfl, KF.out.then D3b.out⟩
end Go.Proofs.YtneappinkfhjmaaDoor
