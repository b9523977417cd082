/-
  arbaclaw05.DaysMakes returns true.
-/
import Derived.Test.YtcipkloopiflpaaDoorDyAw
import Derived.Test.YtcipkloopiflpaaDoorDyIs
import Derived.Test.YtcipkloopiflpaaDoorDyRo
import Derived.Deep.RegionHeld3
namespace Go.Proofs.YtcipkloopiflpaaDoor
open Go.RowKit Go.Shelf
set_option linter.unusedSimpArgs false
set_option linter.unusedVariables false
set_option maxRecDepth 100000

set_option maxHeartbeats 3200000 in
theorem makesL_any (w0 : World) (v : Value) (l0 : List (Int × Int)) (d : Int) (h : RowG ESp w0 v l0) (hT : TabD w0) :
    Calls Tryd.prog 3 #[v, .int .i64 d] w0 fun e w' => e = .returned (.bool true) ∧ Kept (fun _ => False) w0 w' := by
  obtain ⟨la, lc, rfl, _, _⟩ := h.form
  have HV := Lib.hid h; have HT := Lib.hid hT
  obtain ⟨N, hN⟩ : ∃ N, N = l0.length := ⟨_, rfl⟩
  rw [← hN] at HV ⊢
  clear h hT hN
  go_enter Tryd.func3, Tryd.ntmps3
  go_wp2_with fail
  refine (awD_any w0 HT.out).mono ?_
  rintro e w1 ⟨rfl, k1⟩
  have HK1 := Lib.hid k1
  clear k1
  go_wp2_with fail
  refine (fewD_any w1 _ l0 (HV.out.on HK1.out)).mono ?_
  rintro e w1' ⟨u, rfl, hu, rfl⟩
  have hl6 : (l0.take 6).length ≤ 6 := by rw [List.length_take]; omega
  generalize l0.take 6 = l at hu hl6
  obtain ⟨ua, uc, rfl, _, _⟩ := hu.form
  have HU := Lib.hid hu
  have HL6 := Lib.hid hl6
  obtain ⟨L, hL⟩ : ∃ L, L = l.length := ⟨_, rfl⟩
  rw [← hL] at HU ⊢
  clear hu hl6 hL
  go_wp2_with fail
  refine (spansL_any _ _ l HU.out (by have := HL6.out; omega)).mono ?_
  rintro e w2 ⟨s, rfl, hs, k2⟩
  obtain ⟨sa, sc, rfl, _, _⟩ := hs.form
  have HS2 := Lib.hid hs.row
  have HK2 := Lib.hid (HK1.out.then k2)
  have HU2 := Lib.hid (HU.out.on k2)
  clear hs k2 HK1 HU HV
  go_wp2_with fail
  refine (ofD_any _ _ l HS2.out (by have := HL6.out; omega)).mono ?_
  rintro e w3 ⟨sv, rfl, k3, hor⟩
  have HK3 := Lib.hid (HK2.out.then k3)
  have HU3 := Lib.hid (HU2.out.on k3)
  have hrow : ∃ ra rn rc, sv = .agg #[.slice ra rn rc] := by
    rcases hor with ⟨_, t, ht, _⟩ | ⟨_, h⟩
    · obtain ⟨row, rfl, hr, _⟩ := ht
      obtain ⟨a, c, rfl, _, _⟩ := hr.form
      exact ⟨_, _, _, rfl⟩
    · exact ⟨_, _, _, h⟩
  obtain ⟨ra, rn, rc, rfl⟩ := hrow
  have HOR := Lib.hid hor
  have HCK : Hid (∀ W, Kept (fun _ => False) w3 W → Calls Tryd.prog 13 #[.slice ua L uc] W fun e w' => e = .returned (.int .i64 (errD l)) ∧ Kept (fun _ => False) W w') := Lib.hid fun W k => rcheckD_any W _ l (HU3.out.on k) (by have := HL6.out; omega)
  have HRO : Hid (∀ W, errD l = 0 → Kept (fun _ => False) w3 W → Calls Tryd.prog 16 #[.slice ua L uc] W fun e w' => ∃ u s, e = .returned u ∧ RowG EB w' u s ∧ s.length = 30001 ∧ (∀ d : Nat, d ≤ 30000 → s.getD d false = spanIn l (d : Int)) ∧ Kept (fun _ => False) W w') := Lib.hid fun W he k => rofD_any W _ l (HU3.out.on k) (by have := HL6.out; omega) (errD_ok he)
  obtain ⟨y, hy⟩ : ∃ y, y = errD l := ⟨_, rfl⟩
  rw [← hy] at HCK HRO HOR ⊢
  clear hor k3 HU2 HK2 HS2 hy HU3
  have HA := Lib.hid (Kept.alloc (fun _ => False) w3 (.cells #[.slice ra rn rc] 27))
  have c0 : (w3.alloc (.cells #[.slice ra rn rc] 27)).cell? ⟨w3.heap.size, 0, none⟩ = some (.slice ra rn rc) := by go_simp
  have HC : Hid (∀ W, Kept (fun _ => False) (w3.alloc (.cells #[.slice ra rn rc] 27)) W → W.cell? ⟨w3.heap.size, 0, none⟩ = some (.slice ra rn rc)) := Lib.hid fun W k => (k.cell (p := ⟨w3.heap.size, 0, none⟩) (by simp) (fun h => h)).trans c0
  clear c0
  go_wp2_with fail
  refine (HCK.out _ HA.out).mono ?_
  obtain ⟨w4, hw4⟩ : ∃ w4, w4 = w3.alloc (.cells #[.slice ra rn rc] 27) := ⟨_, rfl⟩
  rw [← hw4] at HA HC ⊢
  clear hw4
  rintro e w5 ⟨rfl, k5⟩
  have HJ5 := Lib.hid (HA.out.then k5)
  have HC5 : Hid (∀ W, Kept (fun _ => False) w5 W → W.cell? ⟨w3.heap.size, 0, none⟩ = some (.slice ra rn rc)) := Lib.hid fun W k => HC.out W (k5.then k)
  have c5 := HC5.out w5 (Kept.refl _ _)
  clear k5 HCK HA HC
  by_cases h0 : y = 0
  · subst h0
    have hor := HOR.out
    rcases hor with ⟨_, t, ht, hin⟩ | ⟨h, _⟩
    · have HS : Hid (∀ W, Kept (fun _ => False) w3 W → SetD W (.agg #[.slice ra rn rc]) t) := Lib.hid fun W k => ht.on k
      have HIN := Lib.hid hin
      clear ht hin
      go_wp2_with fail
      refine (HRO.out _ (by first | rfl | trivial) HJ5.out).mono ?_
      rintro e w6 ⟨fv, f, rfl, hf, hfl, hfv, k6⟩
      obtain ⟨fa, fc, rfl, _, _⟩ := hf.form
      have HJ6 := Lib.hid (HJ5.out.then k6)
      have HK6 := Lib.hid (HK3.out.then (HJ5.out.then k6))
      have c6 := HC5.out w6 k6
      have HAG : Hid (∀ x : Nat, x ≤ 30000 → f.getD x false = inD t (x : Int)) := Lib.hid fun x hx => by rw [hfv x hx, HIN.out]
      have HIS : Hid (∀ W, Kept (fun _ => False) w6 W → Calls Tryd.prog 17 #[.agg #[.slice ra rn rc], .slice fa f.length fc] W fun e w' => e = .returned (.bool true) ∧ Kept (fun _ => False) W w') := Lib.hid fun W k => isD_any W _ _ t f (HS.out W (HJ6.out.then k)) (hf.on k) hfl HAG.out
      have HHA : Hid (∀ W, Kept (fun _ => False) w6 W → Calls Tryd.prog 18 #[.agg #[.slice ra rn rc], .int .i64 d] W fun e w' => e = .returned (.bool (inD t d)) ∧ Kept (fun _ => False) W w') := Lib.hid fun W k => hasD_any _ t d W (HS.out W (HJ6.out.then k))
      have HCAN := Lib.hid ((HS.out w3 (Kept.refl _ _)).can)
      have HC6 : Hid (∀ W, Kept (fun _ => False) w6 W → W.cell? ⟨w3.heap.size, 0, none⟩ = some (.slice ra rn rc)) := Lib.hid fun W k => HC5.out W (k6.then k)
      have hfl2 : f.length = 30001 := hfl
      have HF6 := Lib.hid hf
      obtain ⟨b, hb⟩ : ∃ b, b = inD t d := ⟨_, rfl⟩
      rw [← hb] at HHA
      rw [hfl2] at HIS HF6 ⊢
      clear hf hfl hfv k6 hfl2 HC5 c5 HJ5 HRO HS HIN
      go_wp2_with fail
      refine (HIS.out _ (Kept.refl _ _)).mono ?_
      rintro e w7 ⟨rfl, k7⟩
      have HJ7 := Lib.hid k7
      have c7 := HC6.out w7 k7
      clear k7 c6 HIS
      go_wp2_with fail
      refine (HHA.out _ HJ7.out).mono ?_
      rintro e w8 ⟨rfl, k8⟩
      have HK8 := Lib.hid (HK6.out.then (HJ7.out.then k8))
      have HF8 := Lib.hid (HF6.out.on (HJ7.out.then k8))
      clear k8 c7 HHA HJ7 HF6 HC6 HK6 HJ6
      by_cases d0 : 0 ≤ d
      · by_cases d1 : d ≤ 30000
        · obtain ⟨x, rfl⟩ : ∃ x : Nat, d = (x : Int) := ⟨d.toNat, by omega⟩
          have hx1 : x ≤ 30000 := by omega
          have hfl3 : f.length = 30001 := by
            obtain ⟨_, _, e, _⟩ := HF8.out.form
            injection e with _ e2 _; exact e2.symm
          have h9 := HF8.out
          rw [show (.slice fa 30001 fc : Value) = .slice fa 30001 fc from rfl] at h9
          obtain ⟨g, off, rfl, hg, hat⟩ := h9.at (k := x) (by omega)
          change AtG EB w8 g (off + x * 1) (f.getD x false) at hat
          rw [HAG.out x hx1, ← hb] at hat
          have c9 := atEB hat
          rw [Nat.mul_one] at c9
          have hx2 : (x : Int) < 30001 := by omega
          have hbb : (b == b) = true := by cases b <;> rfl
          clear hat hg h9 hfl3 HF8 HAG hb
          go_wp2_with fail
          go_ret
          exact ⟨rfl, HK8.out⟩
        · have hbf : b = false := by rw [hb, HCAN.out.out (by omega)]
          clear hb
          subst hbf
          go_wp2_with fail
          go_ret
          exact ⟨rfl, HK8.out⟩
      · have hbf : b = false := by rw [hb, HCAN.out.before (by omega)]
        clear hb
        subst hbf
        go_wp2_with fail
        go_ret
        exact ⟨rfl, HK8.out⟩
    · exact absurd rfl h
  · have hor := HOR.out
    rcases hor with ⟨h, _⟩ | ⟨_, hsv⟩
    · exact absurd h h0
    · obtain ⟨rfl, rfl, rfl⟩ : ra = none ∧ rn = 0 ∧ rc = 0 := by
        injection hsv with e
        injection e with e
        injection e with e _
        injection e with e1 e2 e3
        exact ⟨e1, e2, e3⟩
      have hye : (y == 0) = false := by rw [beq_eq_false_iff_ne]; exact h0
      have HE : Hid (∀ W, SetD W (.agg #[.slice none 0 0]) []) := Lib.hid fun W => ⟨_, rfl, Or.inl ⟨rfl, rfl⟩, CanD.nil⟩
      clear hsv
      go_wp2_with fail
      refine (dayEmpty_any _ [] _ (HE.out _)).mono ?_
      rintro e w6 ⟨rfl, k6⟩
      have HK6 := Lib.hid (HK3.out.then (HJ5.out.then k6))
      have c6 := HC5.out w6 k6
      clear k6
      go_wp2_with fail
      refine (dayEqual_any _ _ [] [] _ (HE.out _) (HE.out _)).mono ?_
      rintro e w7 ⟨rfl, k7⟩
      have HK7 := Lib.hid (HK6.out.then k7)
      clear k7
      go_wp2_with fail
      go_ret
      exact ⟨rfl, HK7.out⟩
end Go.Proofs.YtcipkloopiflpaaDoor
