/- Texts of this claim, one behind the other. -/
import Derived.Test.YtnnakllgfaaejaaGreatDoorMgb
import Derived.Test.YtnnakllgfaaejaaGreatDoorPmIrq
import Derived.BigQuiet
import Derived.Laws.IdiomCopy
import Derived.Deep.Upon
import Derived.Deep.MidRow
import Derived.Test.YtnnakllgfaaejaaGreatDoorPmNx
import Derived.Deep.RegionHeld3
import Derived.Test.YtnnakllgfaaejaaGreatDoorPmMk
import Derived.Test.YtnnakllgfaaejaaGreatDoorPaLo
import Derived.OpenShut
import Derived.ChangeMaps5
import Derived.Lib.SmallJoins
import Derived.Deep.Slices
/-
  The reference's normal list.
-/
namespace Go.Proofs.YtnnakllgfaaejaaGreatDoor
open Go.RowKit Go.Maps Go.WideMaps Go.ChangeMaps
set_option linter.unusedSimpArgs false
set_option linter.unusedVariables false
set_option maxRecDepth 100000

theorem eqs_cases (xa xp ya yp : ByteArray) (xd yd : Bool) : (Per.mk ya yp yd = ⟨xa, xp, xd⟩ ∧ (ya.toList == xa.toList) = true ∧ (yp.toList == xp.toList) = true ∧ (yd == xd) = true) ∨
    (Per.mk ya yp yd ≠ ⟨xa, xp, xd⟩ ∧ (((ya.toList == xa.toList) = false) ∨ ((ya.toList == xa.toList) = true ∧ (yp.toList == xp.toList) = false) ∨ ((ya.toList == xa.toList) = true ∧ (yp.toList == xp.toList) = true ∧ (yd == xd) = false))) := by
  by_cases h : Per.mk ya yp yd = ⟨xa, xp, xd⟩
  · left
    refine ⟨h, ?_⟩
    have h2 := decide_eq_true h
    rw [dec_perQ] at h2
    simpa using h2
  · exact Or.inr ⟨h, ne_eqs h⟩

/-- What the outer loop has found. -/
structure RnInv (w wr : World) (v : Value) (acc : List Per) (l : List Per) (k : Nat) : Prop where
  row : OwnQ 36 w.heap.size wr v acc
  eq : acc = nrmF l k
  kept : Kept (fun _ => False) w wr

set_option maxHeartbeats 6400000 in
theorem rnormal_any (w0 : World) (v : Value) (l : List Per) (h : Pers w0 v l) (hb : bdQ l) (hl : l.length ≤ 5000) :
    Calls Tryz.prog 13 #[v] w0 fun e w' => ∃ a c r, e = .returned (.slice a r.length c) ∧ NormS l r ∧ r.length ≤ l.length ∧ OwnQ 36 w0.heap.size w' (.slice a r.length c) r ∧ Kept (fun _ => False) w0 w' := by
  obtain ⟨la, lc, rfl, h1, h2⟩ := h.form
  have HV := Lib.hid h; have HBD := Lib.hid hb
  obtain ⟨N, hN⟩ : ∃ N, N = l.length := ⟨_, rfl⟩
  rw [← hN] at HV hl h1 ⊢
  have HN := Lib.hid hN
  unfold maxLen at h2
  have HI0 : Hid (RnInv w0 w0 (.slice none 0 0) [] l 0) := Lib.hid ⟨OwnQ.nil _ _ _, by simp [nrmF], Kept.refl _ _⟩
  clear h hb hN
  go_enter Tryz.func13, Tryz.ntmps13
  go_wp2_with fail
  go_loopw [3, 5, 6, 8, 11] (fun ov _ _ _ iv wr => ∃ (k : Nat) (a : Option Addr) (c : Nat) (acc : List Per), k ≤ N ∧ iv = .int .i64 (k : Int) ∧ ov = .slice a acc.length c ∧ Hid (RnInv w0 wr (.slice a acc.length c) acc l k)) (fun _ _ _ _ iv _ => N - (intOf iv).toNat)
  case atStart => exact ⟨0, none, 0, [], Nat.zero_le _, rfl, rfl, HI0⟩
  case round =>
    obtain ⟨k, a, c, acc, hk, rfl, rfl, hI⟩ := hrel
    clear HI0
    have hal : acc.length ≤ 5000 := by
      have := nrmF_len l k
      rw [← hI.out.eq] at this
      omega
    by_cases hlt : k < N
    · have l1 : (k : Int) < (N : Int) := by omega
      have l0 : (0 : Int) ≤ (k : Int) := by omega
      have hkl : k < l.length := by have := HN.out; omega
      obtain ⟨g, off, rfl, hg, hc⟩ := (HV.out.kept hI.out.kept (fun _ _ h => h)).at (k := k) hkl
      have hbx := HBD.out _ (getD_mem l k hkl)
      have hnx := nrmF_next l k hkl
      rw [← hI.out.eq] at hnx
      obtain ⟨p, hp⟩ : ∃ p, p = l.getD k per0 := ⟨_, rfl⟩
      rw [← hp] at hc hbx hnx
      have HCK := Lib.hid (fun W => rcheck_any p hbx.2 W)
      have hzz := chkP_zero p
      have hgz : (chkP p == 0) = okP p := by rw [Bool.eq_iff_iff, ← hzz]; simp
      obtain ⟨P, hP⟩ : ∃ P, P = p := ⟨_, rfl⟩
      have HIM := Lib.hid (fun y (hy : y ∈ l) W => rimp_any y p (HBD.out y hy).2 hbx.2 W)
      have hst : nrmF l (k + 1) = if okP P && !excP l P then insP acc P else acc := by rw [hP]; exact hnx
      have hbacc : bdQ acc := fun x hx => HBD.out x (nrmF_mem l k (by rw [← hI.out.eq]; exact hx)).1
      have HBA := Lib.hid hbacc
      obtain ⟨pa, pp, pd⟩ := p
      unfold perV at HCK HIM
      obtain ⟨c0, c1, c2⟩ := hc
      simp only at c0 c1 c2 HCK
      have HIN := Lib.hid (fun W (hW : OwnQ 36 w0.heap.size W (.slice a acc.length c) acc) (hB : w0.heap.size ≤ W.heap.size) => rinsert_any W (.slice a acc.length c) acc ⟨pa, pp, pd⟩ w0.heap.size hW HBA.out hbx.2 (by omega) hB)
      unfold perV at HIN
      simp only at HIN
      rw [← hP] at HIN
      generalize chkP ⟨pa, pp, pd⟩ = CK at HCK hgz hzz
      rw [← hP] at hgz
      obtain ⟨O, hO⟩ : ∃ O, O = okP P := ⟨_, rfl⟩
      rw [← hO] at hgz hst
      have HST := Lib.hid hst
      have HPP := Lib.hid hP
      have HBX := Lib.hid (Bx.new wr pa pp pd 36)
      have hka : Kept (fun _ => False) wr (wr.alloc (.cells #[.string pa, .string pp, .bool pd] 36)) := Kept.alloc _ _ _
      have HR1 := Lib.hid (hI.out.row.kept hka (fun _ _ h => h))
      have HK1 := Lib.hid (hI.out.kept.then hka)
      clear hg hka hI hnx hp hzz hst hP hO hbx hbacc HBA
      go_wp2_with fail
      refine (HCK.out _).mono ?_
      clear c0 c1 c2
      generalize wr.alloc (.cells #[.string pa, .string pp, .bool pd] 36) = W1 at *
      generalize wr.heap.size = Q1 at *
      rintro e w3 ⟨rfl, k3⟩
      have HBX3 := Lib.hid (HBX.out.stay k3)
      have HR3 := Lib.hid (HR1.out.kept k3 (fun _ _ h => h))
      have HK3 := Lib.hid (HK1.out.then k3)
      have HJ0 : Hid (O = (O && !excP (l.take 0) P)) := Lib.hid (by simp [excP])
      have HKR : Hid (Kept (fun _ => False) w3 w3) := Lib.hid (Kept.refl _ _)
      clear k3 HCK HBX HR1 HK1
      go_wp2_with fail
      go_loopw [6, 8, 20] (fun kv _ jv W => ∃ (j : Nat) (b : Bool), j ≤ N ∧ jv = .int .i64 (j : Int) ∧ kv = .bool b ∧ Hid (b = (O && !excP (l.take j) P)) ∧ Hid (Kept (fun _ => False) w3 W)) (fun _ _ jv _ => N - (intOf jv).toNat)
      case atStart => exact ⟨0, O, Nat.zero_le _, rfl, rfl, HJ0, HKR⟩
      case round =>
        obtain ⟨j, b, hj, rfl, rfl, hbe, hkw⟩ := hrel
        clear HJ0 HKR
        by_cases hjt : j < N
        · have m1 : (j : Int) < (N : Int) := by omega
          have m0 : (0 : Int) ≤ (j : Int) := by omega
          have hjl : j < l.length := by have := HN.out; omega
          obtain ⟨g', off', hgg, hg', hc'⟩ := ((HV.out.kept HK3.out (fun _ _ h => h)).kept hkw.out (fun _ _ h => h)).at (k := j) hjl
          obtain ⟨rfl, rfl⟩ : g = g' ∧ off = off' := by injection hgg with hgg; injection hgg with h1 h2; exact ⟨h1, h2⟩
          have hen := exc_next l j hjl P
          have HMI := Lib.hid (HIM.out _ (getD_mem l j hjl))
          generalize l.getD j per0 = y at hc' hen HMI
          obtain ⟨ya, yp, yd⟩ := y
          obtain ⟨d0, d1, d2⟩ := hc'
          simp only at d0 d1 d2 HMI
          rw [← HPP.out] at HMI
          generalize impP ⟨ya, yp, yd⟩ P = V at HMI hen
          have HEN := Lib.hid hen
          have HBY := Lib.hid (Bx.new wr ya yp yd 36)
          have hka : Kept (fun _ => False) wr (wr.alloc (.cells #[.string ya, .string yp, .bool yd] 36)) := Kept.alloc _ _ _
          have HBX4 := Lib.hid (HBX3.out.stay (hkw.out.then hka))
          have HKJ := Lib.hid (hkw.out.then hka)
          have hq1 : Q1 < wr.heap.size := Nat.lt_of_lt_of_le (World.block_lt_of_cell? w3 _ HBX3.out.c0) hkw.out.size
          have hq2 : ¬ Q1 = wr.heap.size := by omega
          obtain ⟨b0, b1, b2⟩ := HBX4.out
          obtain ⟨e0, e1, e2⟩ := HBY.out
          have hcs := eqs_cases pa pp ya yp pd yd
          rw [← HPP.out] at hcs
          clear hg' hgg hka hkw hen
          rcases hcs with ⟨hy, q1, q2, q3⟩ | ⟨hy, hcs⟩
          · have HJ2 : Hid (b = (O && !excP (l.take (j + 1)) P)) := Lib.hid (by rw [HEN.out, hy]; simp; exact hbe.out)
            clear hy HEN hbe
            go_wp2_with fail
            go_roundw
            case rel => exact ⟨j + 1, b, by omega, by go_num, rfl, HJ2, HKJ⟩
            case measure => simp [intOf]; omega
          · have HJ2 : Hid ((if V then false else b) = (O && !excP (l.take (j + 1)) P)) := Lib.hid (by rw [HEN.out, decide_eq_false hy, hbe.out]; cases V <;> cases O <;> cases excP (l.take j) P <;> rfl)
            clear hy HEN hbe
            rcases hcs with q1 | ⟨q1, q2⟩ | ⟨q1, q2, q3⟩
            all_goals
             go_wp2_with fail
             refine (HMI.out _).mono ?_
             clear d0 d1 d2 b0 b1 b2 e0 e1 e2
             generalize wr.alloc (.cells #[.string ya, .string yp, .bool yd] 36) = W4 at *
             generalize wr.heap.size = Q4 at *
             rintro e w5 ⟨rfl, k5⟩
             have HK5 := Lib.hid (HKJ.out.then k5)
             clear k5 HMI
             cases V with
             | false =>
               go_wp2_with fail
               go_roundw
               case rel => exact ⟨j + 1, b, by omega, by go_num, rfl, HJ2, HK5⟩
               case measure => simp [intOf]; omega
             | true =>
               go_wp2_with fail
               go_roundw
               case rel => exact ⟨j + 1, false, by omega, by go_num, rfl, HJ2, HK5⟩
               case measure => simp [intOf]; omega
        · obtain rfl : j = N := by omega
          have hbf := hbe.out
          rw [HN.out, List.take_length] at hbf
          have hst := HST.out
          rw [← hbf] at hst
          have HRW := Lib.hid (HR3.out.kept hkw.out (fun _ _ h => h))
          have HKW := Lib.hid (HK3.out.then hkw.out)
          obtain ⟨b0, b1, b2⟩ := HBX3.out.stay hkw.out
          have HCI := Lib.hid (HIN.out wr HRW.out HKW.out.size)
          clear hbf hbe hkw HST HIN
          cases b with
          | false =>
            rw [if_neg (by decide)] at hst
            have HI2 : Hid (RnInv w0 wr (.slice a acc.length c) acc l (k + 1)) := Lib.hid ⟨HRW.out, hst.symm, HKW.out⟩
            clear hst
            go_wp2_with fail
            go_roundw
            case rel => exact ⟨k + 1, a, c, acc, by omega, by go_num, rfl, HI2⟩
            case measure => simp [intOf]; omega
          | true =>
            rw [if_pos rfl] at hst
            have HST := Lib.hid hst
            clear hst
            go_wp2_with fail
            refine HCI.out.mono ?_
            rintro e w6 ⟨a6, c6, rfl, ho6, k6⟩
            have HI2 : Hid (RnInv w0 w6 (.slice a6 (insP acc P).length c6) (insP acc P) l (k + 1)) := Lib.hid ⟨ho6, HST.out.symm, HKW.out.then k6⟩
            clear ho6 k6 HCI
            generalize insP acc P = acc2 at *
            go_wp2_with fail
            go_roundw
            case rel => exact ⟨k + 1, a6, c6, acc2, by omega, by go_num, rfl, HI2⟩
            case measure => simp [intOf]; omega
    · obtain rfl : k = N := by omega
      have hnm := nrmF_norm l
      rw [← HN.out, ← hI.out.eq] at hnm
      have hle : acc.length ≤ k := by
        have := nrmF_len l k
        rwa [← hI.out.eq] at this
      have HNM := Lib.hid hnm; have HLE := Lib.hid hle
      have HRW := Lib.hid hI.out.row; have HKW := Lib.hid hI.out.kept
      clear hnm hI hle
      go_wp2_with fail
      go_ret
      exact ⟨a, c, acc, rfl, HNM.out, HLE.out, HRW.out, HKW.out⟩
end Go.Proofs.YtnnakllgfaaejaaGreatDoor
/-
  Permissions: slices.Equal; Same; Common.
-/
namespace Go.Proofs.YtnnakllgfaaejaaGreatDoor
open Go.RowKit
set_option linter.unusedSimpArgs false
set_option linter.unusedVariables false
set_option maxRecDepth 100000

set_option maxHeartbeats 3200000 in
theorem peq_any (v1 v2 : Value) (xs ys : List Per) (w : World) (h1 : Pers w v1 xs) (h2 : Pers w v2 ys) :
    Calls Tryz.prog 33 #[v1, v2] w fun e w' => e = .returned (.bool (decide (xs = ys))) ∧ Kept (fun _ => False) w w' := by
  obtain ⟨R, hR⟩ : ∃ R, R = decide (xs = ys) := ⟨_, rfl⟩
  rw [← hR]
  obtain ⟨a1, c1, rfl, hc1, hm1⟩ := h1.form
  obtain ⟨a2, c2, rfl, hc2, hm2⟩ := h2.form
  unfold maxLen at hm1 hm2
  have HR := Lib.hid hR
  clear hR
  by_cases hlen : xs.length = ys.length
  · have H1 := Lib.hid h1; have H2 := Lib.hid h2
    obtain ⟨n, hn⟩ : ∃ n, n = xs.length := ⟨_, rfl⟩
    have hn2 : n = ys.length := by omega
    have hnb : n ≤ 9223372036854775807 := by omega
    rw [← hn] at H1
    rw [← hn2] at H2
    rw [← hn, ← hn2]
    have HN := Lib.hid hn; have HN2 := Lib.hid hn2
    clear h1 h2 hn hn2 hlen hc1 hm1 hc2 hm2
    go_enter Tryz.func33, Tryz.ntmps33
    go_wp2_with fail
    go_loopw [13] (fun iv wr => ∃ k : Nat, k ≤ n ∧ iv = .int .i64 k ∧ Hid (∀ j, j < k → xs.getD j per0 = ys.getD j per0) ∧ Hid (Kept (fun _ => False) w wr)) (fun iv _ => n - (intOf iv).toNat)
    case atStart => exact ⟨0, by omega, rfl, fun j hj => by omega, Kept.refl _ _⟩
    case round =>
      obtain ⟨k, hk, rfl, heq, hkw⟩ := hrel
      by_cases hlt : k < n
      · have l1 : (k : Int) < (n : Int) := by omega
        have l0 : (0 : Int) ≤ (k : Int) := by omega
        obtain ⟨g, off, rfl, _, hc⟩ := (H1.out.kept hkw.out (fun _ _ h => h)).at (k := k) (by have := HN.out; omega)
        obtain ⟨g', off', rfl, _, hc'⟩ := (H2.out.kept hkw.out (fun _ _ h => h)).at (k := k) (by have := HN2.out; omega)
        obtain ⟨x, hx⟩ : ∃ x, x = xs.getD k per0 := ⟨_, rfl⟩
        obtain ⟨y, hy⟩ : ∃ y, y = ys.getD k per0 := ⟨_, rfl⟩
        rw [← hx] at hc
        rw [← hy] at hc'
        have HX := Lib.hid hx; have HY := Lib.hid hy
        clear hx hy
        by_cases he : x = y
        · have heq2 : Hid (∀ j, j < k + 1 → xs.getD j per0 = ys.getD j per0) := fun j hj => by
            by_cases e : j < k
            · exact heq.out j e
            · obtain rfl : j = k := by omega
              rw [← HX.out, ← HY.out]; exact he
          subst he
          obtain ⟨xa, xp, xd⟩ := x
          obtain ⟨c0, c1, c2⟩ := hc
          obtain ⟨d0, d1, d2⟩ := hc'
          simp only at c0 c1 c2 d0 d1 d2
          clear heq HX HY
          go_wp2_with fail
          go_quiet (fail)
          have HD2 := Lib.hid (hkw.out.drewN nq)
          generalize wr.drewN nq = wd at *
          go_wp2_with fail
          go_roundw
          case rel => first | exact ⟨k + 1, by omega, by go_num, heq2, HD2⟩ | ((repeat apply Exists.intro); exact ⟨⟨k + 1, by omega, by go_num, heq2, HD2⟩, rfl⟩) | ((repeat apply Exists.intro); exact ⟨by omega, by go_num, heq2, HD2⟩)
          case measure => simp [intOf]; omega
        · have hrf : R = false := by
            rw [HR.out, decide_eq_false_iff_not]
            intro h
            exact he (by rw [HX.out, HY.out, h])
          subst hrf
          obtain ⟨xa, xp, xd⟩ := x
          obtain ⟨ya, yp, yd⟩ := y
          obtain ⟨c0, c1, c2⟩ := hc
          obtain ⟨d0, d1, d2⟩ := hc'
          simp only at c0 c1 c2 d0 d1 d2
          clear heq HX HY HR
          by_cases ea : xa = ya
          · subst ea
            by_cases ep : xp = yp
            · subst ep
              have ed : ¬ xd = yd := fun e => he (by rw [e])
              clear he
              cases xd with
              | false =>
                cases yd with
                | false => exact absurd rfl ed
                | true =>
                  clear ed
                  go_wp2_with fail
                  go_quiet (fail)
                  have HD2 := Lib.hid (hkw.out.drewN nq)
                  generalize wr.drewN nq = wd at *
                  go_wp2_with fail
                  go_ret
                  exact ⟨rfl, HD2.out⟩
              | true =>
                cases yd with
                | true => exact absurd rfl ed
                | false =>
                  clear ed
                  go_wp2_with fail
                  go_quiet (fail)
                  have HD2 := Lib.hid (hkw.out.drewN nq)
                  generalize wr.drewN nq = wd at *
                  go_wp2_with fail
                  go_ret
                  exact ⟨rfl, HD2.out⟩
            · have q2 : (xp.toList == yp.toList) = false := by rw [str_eq]; simp [ep]
              clear he ep
              go_wp2_with fail
              go_quiet (fail)
              have HD2 := Lib.hid (hkw.out.drewN nq)
              generalize wr.drewN nq = wd at *
              go_wp2_with fail
              go_ret
              exact ⟨rfl, HD2.out⟩
          · have q1 : (xa.toList == ya.toList) = false := by rw [str_eq]; simp [ea]
            clear he ea
            go_wp2_with fail
            go_quiet (fail)
            have HD2 := Lib.hid (hkw.out.drewN nq)
            generalize wr.drewN nq = wd at *
            go_wp2_with fail
            go_ret
            exact ⟨rfl, HD2.out⟩
      · obtain rfl : k = n := by omega
        have hrt : R = true := by
          rw [HR.out, decide_eq_true_iff]
          apply List.ext_getElem
          · rw [← HN.out, ← HN2.out]
          · intro i h1 h2
            have := heq.out i (by have := HN.out; omega)
            simpa [List.getD, h1, h2] using this
        clear heq
        subst hrt
        go_wp2_with fail
        go_ret
        exact ⟨rfl, hkw.out⟩
  · have hrf : R = false := by
      rw [HR.out, decide_eq_false_iff_not]
      intro h
      exact hlen (by rw [h])
    have hli : ¬ (xs.length : Int) = (ys.length : Int) := by omega
    have hlb : ((xs.length : Int) == (ys.length : Int)) = false := by simp; omega
    subst hrf
    clear h1 h2
    go_enter Tryz.func33, Tryz.ntmps33
    go_wp2_with fail
    go_ret
    exact ⟨rfl, Kept.refl _ _⟩

/-- The normal list of a list. -/
theorem normS_ok {l r : List Per} (h : NormS l r) : ∀ x ∈ r, okP x = true := fun x hx => ((h.2 x).1 hx).2.1

set_option maxHeartbeats 1600000 in
/-- Same: whether the normal lists are one. -/
theorem psame_any (v u : Value) (l bl : List Per) (w : World) (h : Pers w v l) (hu : Pers w u bl) (hb : bdQ l) (hbb : bdQ bl) (hl : l.length ≤ 50000) (hbl : bl.length ≤ 50000) :
    Calls Tryz.prog 15 #[v, u] w fun e w' => ∃ r s, NormS l r ∧ NormS bl s ∧ e = .returned (.bool (decide (r = s))) ∧ Kept (fun _ => False) w w' := by
  have HN1 := Lib.hid (normal_any w v l h hb hl)
  have HN2 := Lib.hid (fun W (hk : Kept (fun _ => False) w W) => normal_any W u bl (hu.kept hk (fun _ _ h => h)) hbb hbl)
  clear h hu hb hbb hl hbl
  go_enter Tryz.func15, Tryz.ntmps15
  go_wp2_with fail
  refine HN1.out.mono ?_
  rintro e w2 ⟨v1, r, rfl, h1⟩
  have H1 := Lib.hid h1
  clear h1 HN1
  go_wp2_with fail
  refine (HN2.out _ H1.out.kept).mono ?_
  rintro e w3 ⟨v2, s, rfl, h2⟩
  have H2 := Lib.hid h2
  have HQ := Lib.hid (peq_any v1 v2 r s w3 (H1.out.own.pers.kept h2.kept (fun _ _ h => h)) h2.own.pers)
  have HK := Lib.hid (H1.out.kept.then h2.kept)
  clear h2 HN2
  go_wp2_with fail
  refine HQ.out.mono ?_
  rintro e w4 ⟨rfl, k4⟩
  have K4 := Lib.hid (HK.out.then k4)
  clear k4
  go_wp2_with fail
  go_ret
  exact ⟨r, s, H1.out.norm, H2.out.norm, rfl, K4.out⟩
end Go.Proofs.YtnnakllgfaaejaaGreatDoor
/-
  Lists of permissions compared; the reference's Minus and Common.
-/
namespace Go.Proofs.YtnnakllgfaaejaaGreatDoor
open Go.RowKit Go.Maps Go.WideMaps Go.ChangeMaps
set_option linter.unusedSimpArgs false
set_option linter.unusedVariables false
set_option maxRecDepth 100000

set_option maxHeartbeats 3200000 in
theorem rsame_any (v1 v2 : Value) (xs ys : List Per) (w : World) (h1 : Pers w v1 xs) (h2 : Pers w v2 ys) :
    Calls Tryz.prog 16 #[v1, v2] w fun e w' => e = .returned (.bool (decide (xs = ys))) ∧ Kept (fun _ => False) w w' := by
  obtain ⟨R, hR⟩ : ∃ R, R = decide (xs = ys) := ⟨_, rfl⟩
  rw [← hR]
  obtain ⟨a1, c1, rfl, hc1, hm1⟩ := h1.form
  obtain ⟨a2, c2, rfl, hc2, hm2⟩ := h2.form
  unfold maxLen at hm1 hm2
  have HR := Lib.hid hR
  clear hR
  by_cases hlen : xs.length = ys.length
  · have H1 := Lib.hid h1; have H2 := Lib.hid h2
    obtain ⟨n, hn⟩ : ∃ n, n = xs.length := ⟨_, rfl⟩
    have hn2 : n = ys.length := by omega
    have hnb : n ≤ 9223372036854775807 := by omega
    rw [← hn] at H1
    rw [← hn2] at H2
    rw [← hn, ← hn2]
    have HN := Lib.hid hn; have HN2 := Lib.hid hn2
    clear h1 h2 hn hn2 hlen hc1 hm1 hc2 hm2
    go_enter Tryz.func16, Tryz.ntmps16
    go_wp2_with fail
    go_loopw [13] (fun iv wr => ∃ k : Nat, k ≤ n ∧ iv = .int .i64 k ∧ Hid (∀ j, j < k → xs.getD j per0 = ys.getD j per0) ∧ Hid (Kept (fun _ => False) w wr)) (fun iv _ => n - (intOf iv).toNat)
    case atStart => exact ⟨0, by omega, rfl, fun j hj => by omega, Kept.refl _ _⟩
    case round =>
      obtain ⟨k, hk, rfl, heq, hkw⟩ := hrel
      by_cases hlt : k < n
      · have l1 : (k : Int) < (n : Int) := by omega
        have l0 : (0 : Int) ≤ (k : Int) := by omega
        obtain ⟨g, off, rfl, _, hc⟩ := (H1.out.kept hkw.out (fun _ _ h => h)).at (k := k) (by have := HN.out; omega)
        obtain ⟨g', off', rfl, _, hc'⟩ := (H2.out.kept hkw.out (fun _ _ h => h)).at (k := k) (by have := HN2.out; omega)
        obtain ⟨x, hx⟩ : ∃ x, x = xs.getD k per0 := ⟨_, rfl⟩
        obtain ⟨y, hy⟩ : ∃ y, y = ys.getD k per0 := ⟨_, rfl⟩
        rw [← hx] at hc
        rw [← hy] at hc'
        have HX := Lib.hid hx; have HY := Lib.hid hy
        clear hx hy
        by_cases he : x = y
        · have heq2 : Hid (∀ j, j < k + 1 → xs.getD j per0 = ys.getD j per0) := fun j hj => by
            by_cases e : j < k
            · exact heq.out j e
            · obtain rfl : j = k := by omega
              rw [← HX.out, ← HY.out]; exact he
          subst he
          obtain ⟨xa, xp, xd⟩ := x
          obtain ⟨c0, c1, c2⟩ := hc
          obtain ⟨d0, d1, d2⟩ := hc'
          simp only at c0 c1 c2 d0 d1 d2
          clear heq HX HY
          go_wp2_with fail
          go_quiet (fail)
          have HD2 := Lib.hid (hkw.out.drewN nq)
          generalize wr.drewN nq = wd at *
          go_wp2_with fail
          go_roundw
          case rel => first | exact ⟨k + 1, by omega, by go_num, heq2, HD2⟩ | ((repeat apply Exists.intro); exact ⟨⟨k + 1, by omega, by go_num, heq2, HD2⟩, rfl⟩) | ((repeat apply Exists.intro); exact ⟨by omega, by go_num, heq2, HD2⟩)
          case measure => simp [intOf]; omega
        · have hrf : R = false := by
            rw [HR.out, decide_eq_false_iff_not]
            intro h
            exact he (by rw [HX.out, HY.out, h])
          subst hrf
          obtain ⟨xa, xp, xd⟩ := x
          obtain ⟨ya, yp, yd⟩ := y
          obtain ⟨c0, c1, c2⟩ := hc
          obtain ⟨d0, d1, d2⟩ := hc'
          simp only at c0 c1 c2 d0 d1 d2
          clear heq HX HY HR
          by_cases ea : xa = ya
          · subst ea
            by_cases ep : xp = yp
            · subst ep
              have ed : ¬ xd = yd := fun e => he (by rw [e])
              clear he
              cases xd with
              | false =>
                cases yd with
                | false => exact absurd rfl ed
                | true =>
                  clear ed
                  go_wp2_with fail
                  go_quiet (fail)
                  have HD2 := Lib.hid (hkw.out.drewN nq)
                  generalize wr.drewN nq = wd at *
                  go_wp2_with fail
                  go_ret
                  exact ⟨rfl, HD2.out⟩
              | true =>
                cases yd with
                | true => exact absurd rfl ed
                | false =>
                  clear ed
                  go_wp2_with fail
                  go_quiet (fail)
                  have HD2 := Lib.hid (hkw.out.drewN nq)
                  generalize wr.drewN nq = wd at *
                  go_wp2_with fail
                  go_ret
                  exact ⟨rfl, HD2.out⟩
            · have q2 : (xp.toList == yp.toList) = false := by rw [str_eq]; simp [ep]
              clear he ep
              go_wp2_with fail
              go_quiet (fail)
              have HD2 := Lib.hid (hkw.out.drewN nq)
              generalize wr.drewN nq = wd at *
              go_wp2_with fail
              go_ret
              exact ⟨rfl, HD2.out⟩
          · have q1 : (xa.toList == ya.toList) = false := by rw [str_eq]; simp [ea]
            clear he ea
            go_wp2_with fail
            go_quiet (fail)
            have HD2 := Lib.hid (hkw.out.drewN nq)
            generalize wr.drewN nq = wd at *
            go_wp2_with fail
            go_ret
            exact ⟨rfl, HD2.out⟩
      · obtain rfl : k = n := by omega
        have hrt : R = true := by
          rw [HR.out, decide_eq_true_iff]
          apply List.ext_getElem
          · rw [← HN.out, ← HN2.out]
          · intro i h1 h2
            have := heq.out i (by have := HN.out; omega)
            simpa [List.getD, h1, h2] using this
        clear heq
        subst hrt
        go_wp2_with fail
        go_ret
        exact ⟨rfl, hkw.out⟩
  · have hrf : R = false := by
      rw [HR.out, decide_eq_false_iff_not]
      intro h
      exact hlen (by rw [h])
    have hli : ¬ (xs.length : Int) = (ys.length : Int) := by omega
    have hlb : ((xs.length : Int) == (ys.length : Int)) = false := by simp; omega
    subst hrf
    clear h1 h2
    go_enter Tryz.func16, Tryz.ntmps16
    go_wp2_with fail
    go_ret
    exact ⟨rfl, Kept.refl _ _⟩

set_option maxHeartbeats 3200000 in
theorem lsame_any (v1 v2 : Value) (xs ys : List Per) (w : World) (h1 : Pers w v1 xs) (h2 : Pers w v2 ys) :
    Calls Tryz.prog 12 #[v1, v2] w fun e w' => e = .returned (.bool (decide (xs = ys))) ∧ Kept (fun _ => False) w w' := by
  obtain ⟨R, hR⟩ : ∃ R, R = decide (xs = ys) := ⟨_, rfl⟩
  rw [← hR]
  obtain ⟨a1, c1, rfl, hc1, hm1⟩ := h1.form
  obtain ⟨a2, c2, rfl, hc2, hm2⟩ := h2.form
  unfold maxLen at hm1 hm2
  have HR := Lib.hid hR
  clear hR
  by_cases hlen : xs.length = ys.length
  · have H1 := Lib.hid h1; have H2 := Lib.hid h2
    obtain ⟨n, hn⟩ : ∃ n, n = xs.length := ⟨_, rfl⟩
    have hn2 : n = ys.length := by omega
    have hnb : n ≤ 9223372036854775807 := by omega
    rw [← hn] at H1
    rw [← hn2] at H2
    rw [← hn, ← hn2]
    have HN := Lib.hid hn; have HN2 := Lib.hid hn2
    clear h1 h2 hn hn2 hlen hc1 hm1 hc2 hm2
    go_enter Tryz.func12, Tryz.ntmps12
    go_wp2_with fail
    go_loopw [13] (fun iv wr => ∃ k : Nat, k ≤ n ∧ iv = .int .i64 k ∧ Hid (∀ j, j < k → xs.getD j per0 = ys.getD j per0) ∧ Hid (Kept (fun _ => False) w wr)) (fun iv _ => n - (intOf iv).toNat)
    case atStart => exact ⟨0, by omega, rfl, fun j hj => by omega, Kept.refl _ _⟩
    case round =>
      obtain ⟨k, hk, rfl, heq, hkw⟩ := hrel
      by_cases hlt : k < n
      · have l1 : (k : Int) < (n : Int) := by omega
        have l0 : (0 : Int) ≤ (k : Int) := by omega
        obtain ⟨g, off, rfl, _, hc⟩ := (H1.out.kept hkw.out (fun _ _ h => h)).at (k := k) (by have := HN.out; omega)
        obtain ⟨g', off', rfl, _, hc'⟩ := (H2.out.kept hkw.out (fun _ _ h => h)).at (k := k) (by have := HN2.out; omega)
        obtain ⟨x, hx⟩ : ∃ x, x = xs.getD k per0 := ⟨_, rfl⟩
        obtain ⟨y, hy⟩ : ∃ y, y = ys.getD k per0 := ⟨_, rfl⟩
        rw [← hx] at hc
        rw [← hy] at hc'
        have HX := Lib.hid hx; have HY := Lib.hid hy
        clear hx hy
        by_cases he : x = y
        · have heq2 : Hid (∀ j, j < k + 1 → xs.getD j per0 = ys.getD j per0) := fun j hj => by
            by_cases e : j < k
            · exact heq.out j e
            · obtain rfl : j = k := by omega
              rw [← HX.out, ← HY.out]; exact he
          subst he
          obtain ⟨xa, xp, xd⟩ := x
          obtain ⟨c0, c1, c2⟩ := hc
          obtain ⟨d0, d1, d2⟩ := hc'
          simp only at c0 c1 c2 d0 d1 d2
          clear heq HX HY
          go_wp2_with fail
          go_quiet (fail)
          have HD2 := Lib.hid (hkw.out.drewN nq)
          generalize wr.drewN nq = wd at *
          go_wp2_with fail
          go_roundw
          case rel => first | exact ⟨k + 1, by omega, by go_num, heq2, HD2⟩ | ((repeat apply Exists.intro); exact ⟨⟨k + 1, by omega, by go_num, heq2, HD2⟩, rfl⟩) | ((repeat apply Exists.intro); exact ⟨by omega, by go_num, heq2, HD2⟩)
          case measure => simp [intOf]; omega
        · have hrf : R = false := by
            rw [HR.out, decide_eq_false_iff_not]
            intro h
            exact he (by rw [HX.out, HY.out, h])
          subst hrf
          obtain ⟨xa, xp, xd⟩ := x
          obtain ⟨ya, yp, yd⟩ := y
          obtain ⟨c0, c1, c2⟩ := hc
          obtain ⟨d0, d1, d2⟩ := hc'
          simp only at c0 c1 c2 d0 d1 d2
          clear heq HX HY HR
          by_cases ea : xa = ya
          · subst ea
            by_cases ep : xp = yp
            · subst ep
              have ed : ¬ xd = yd := fun e => he (by rw [e])
              clear he
              cases xd with
              | false =>
                cases yd with
                | false => exact absurd rfl ed
                | true =>
                  clear ed
                  go_wp2_with fail
                  go_quiet (fail)
                  have HD2 := Lib.hid (hkw.out.drewN nq)
                  generalize wr.drewN nq = wd at *
                  go_wp2_with fail
                  go_ret
                  exact ⟨rfl, HD2.out⟩
              | true =>
                cases yd with
                | true => exact absurd rfl ed
                | false =>
                  clear ed
                  go_wp2_with fail
                  go_quiet (fail)
                  have HD2 := Lib.hid (hkw.out.drewN nq)
                  generalize wr.drewN nq = wd at *
                  go_wp2_with fail
                  go_ret
                  exact ⟨rfl, HD2.out⟩
            · have q2 : (xp.toList == yp.toList) = false := by rw [str_eq]; simp [ep]
              clear he ep
              go_wp2_with fail
              go_quiet (fail)
              have HD2 := Lib.hid (hkw.out.drewN nq)
              generalize wr.drewN nq = wd at *
              go_wp2_with fail
              go_ret
              exact ⟨rfl, HD2.out⟩
          · have q1 : (xa.toList == ya.toList) = false := by rw [str_eq]; simp [ea]
            clear he ea
            go_wp2_with fail
            go_quiet (fail)
            have HD2 := Lib.hid (hkw.out.drewN nq)
            generalize wr.drewN nq = wd at *
            go_wp2_with fail
            go_ret
            exact ⟨rfl, HD2.out⟩
      · obtain rfl : k = n := by omega
        have hrt : R = true := by
          rw [HR.out, decide_eq_true_iff]
          apply List.ext_getElem
          · rw [← HN.out, ← HN2.out]
          · intro i h1 h2
            have := heq.out i (by have := HN.out; omega)
            simpa [List.getD, h1, h2] using this
        clear heq
        subst hrt
        go_wp2_with fail
        go_ret
        exact ⟨rfl, hkw.out⟩
  · have hrf : R = false := by
      rw [HR.out, decide_eq_false_iff_not]
      intro h
      exact hlen (by rw [h])
    have hli : ¬ (xs.length : Int) = (ys.length : Int) := by omega
    have hlb : ((xs.length : Int) == (ys.length : Int)) = false := by simp; omega
    subst hrf
    clear h1 h2
    go_enter Tryz.func12, Tryz.ntmps12
    go_wp2_with fail
    go_ret
    exact ⟨rfl, Kept.refl _ _⟩

end Go.Proofs.YtnnakllgfaaejaaGreatDoor
/-
  The reference's Minus.
-/
namespace Go.Proofs.YtnnakllgfaaejaaGreatDoor
open Go.RowKit Go.Maps Go.WideMaps Go.ChangeMaps
set_option linter.unusedSimpArgs false
set_option linter.unusedVariables false
set_option maxRecDepth 100000

/-- What the outer loop has found. -/
structure RmInv (w wr : World) (v : Value) (acc : List Per) (f : Per → Bool) (l : List Per) (k : Nat) : Prop where
  row : OwnQ 36 w.heap.size wr v acc
  eq : acc = (l.take k).filter f
  kept : Kept (fun _ => False) w wr

set_option maxHeartbeats 6400000 in
theorem rminus_any (w0 : World) (v u : Value) (l m : List Per) (h : Pers w0 v l) (hu : Pers w0 u m) (hb : bdQ l) (hm : bdQ m) (hl : l.length ≤ 5000) :
    Calls Tryz.prog 17 #[v, u] w0 fun e w' => ∃ a c r, e = .returned (.slice a (minS r m).length c) ∧ NormS l r ∧ OwnQ 36 w0.heap.size w' (.slice a (minS r m).length c) (minS r m) ∧ Kept (fun _ => False) w0 w' := by
  have HNO := Lib.hid (rnormal_any w0 v l h hb hl)
  obtain ⟨ua, uc, rfl, u1, u2⟩ := hu.form
  have HU := Lib.hid hu; have HBM := Lib.hid hm; have HBL := Lib.hid hb
  obtain ⟨M, hM⟩ : ∃ M, M = m.length := ⟨_, rfl⟩
  rw [← hM] at HU u1 ⊢
  have HM := Lib.hid hM
  unfold maxLen at u2
  clear h hu hb hm hM
  go_enter Tryz.func17, Tryz.ntmps17
  go_wp2_with fail
  refine HNO.out.mono ?_
  rintro e w ⟨na, nc, r, rfl, n1, n2, n3, n4⟩
  have HN1 := Lib.hid n1; have HRO := Lib.hid n3; have HK0 := Lib.hid n4
  have HBR : Hid (bdQ r) := Lib.hid fun x hx => HBL.out x ((n1.2 x).1 hx).1
  obtain ⟨N, hN⟩ : ∃ N, N = r.length := ⟨_, rfl⟩
  rw [← hN] at HRO n2 ⊢
  have HN := Lib.hid hN
  have hnc : N ≤ nc ∧ nc ≤ 9223372036854775807 := by
    obtain ⟨_, _, e, g1, g2⟩ := n3.form
    injection e with e1 e2 e3
    subst e1 e3
    unfold maxLen at g2
    rw [hN]; omega
  obtain ⟨hnc1, hnc2⟩ := hnc
  have hNb : N ≤ 5000 := by omega
  have HI0 : Hid (RmInv w w (.slice none 0 0) [] (fun x => !anyI m x) r 0) := Lib.hid ⟨OwnQ.nil _ _ _, by simp, Kept.refl _ _⟩
  clear n1 n2 n3 n4 hN HNO
  go_wp2_with fail
  go_loopw [5, 7, 8, 10, 14] (fun ov _ _ _ iv wr => ∃ (k : Nat) (a : Option Addr) (c : Nat) (acc : List Per), k ≤ N ∧ iv = .int .i64 (k : Int) ∧ ov = .slice a acc.length c ∧ Hid (RmInv w wr (.slice a acc.length c) acc (fun x => !anyI m x) r k)) (fun _ _ _ _ iv _ => N - (intOf iv).toNat)
  case atStart => exact ⟨0, none, 0, [], Nat.zero_le _, rfl, rfl, HI0⟩
  case round =>
    obtain ⟨k, a, c, acc, hk, rfl, rfl, hI⟩ := hrel
    clear HI0
    have hal : acc.length ≤ 5000 := by
      have h9 := hI.out.eq
      have h8 := List.length_filter_le (fun x => !anyI m x) (r.take k)
      rw [← h9, List.length_take] at h8
      omega
    by_cases hlt : k < N
    · have l1 : (k : Int) < (N : Int) := by omega
      have l0 : (0 : Int) ≤ (k : Int) := by omega
      have hkl : k < r.length := by have := HN.out; omega
      obtain ⟨g, off, rfl, hg, hc⟩ := (HRO.out.pers.kept hI.out.kept (fun _ _ h => h)).at (k := k) hkl
      have hbx := HBR.out _ (getD_mem r k hkl)
      have hnx := filter_next (fun x => !anyI m x) hkl
      rw [← hI.out.eq] at hnx
      obtain ⟨p, hp⟩ : ∃ p, p = r.getD k per0 := ⟨_, rfl⟩
      rw [← hp] at hc hbx hnx
      obtain ⟨P, hP⟩ : ∃ P, P = p := ⟨_, rfl⟩
      have HIM := Lib.hid (fun y (hy : y ∈ m) W => rimp_any y p (HBM.out y hy).2 hbx.2 W)
      rw [← hP] at hnx
      obtain ⟨pa, pp, pd⟩ := p
      unfold perV at HIM
      obtain ⟨c0, c1, c2⟩ := hc
      simp only at c0 c1 c2
      have HST := Lib.hid hnx
      have HPP := Lib.hid hP
      have HBX := Lib.hid (Bx.new wr pa pp pd 36)
      have hka : Kept (fun _ => False) wr (wr.alloc (.cells #[.string pa, .string pp, .bool pd] 36)) := Kept.alloc _ _ _
      have HR1 := Lib.hid (hI.out.row.kept hka (fun _ _ h => h))
      have HK1 := Lib.hid (hI.out.kept.then hka)
      have HLT : Hid (∀ j, (Value.slice a acc.length c).ownBlock = some j → w.heap.size ≤ j ∧ j < wr.heap.size) := Lib.hid fun j hj => hI.out.row.lt j hj
      have HJ0 : Hid (true = !anyI (m.take 0) P) := Lib.hid (by simp [anyI])
      clear hg hka hI hnx hp hP hbx
      go_wp2_with fail
      clear c0 c1 c2
      generalize wr.alloc (.cells #[.string pa, .string pp, .bool pd] 36) = W1 at *
      generalize wr.heap.size = Q1 at *
      have HKR : Hid (Kept (fun _ => False) W1 W1) := Lib.hid (Kept.refl _ _)
      go_loopw [8, 10, 20] (fun kv _ jv W => ∃ (j : Nat) (b : Bool), j ≤ M ∧ jv = .int .i64 (j : Int) ∧ kv = .bool b ∧ Hid (b = !anyI (m.take j) P) ∧ Hid (Kept (fun _ => False) W1 W)) (fun _ _ jv _ => M - (intOf jv).toNat)
      case atStart => exact ⟨0, true, Nat.zero_le _, rfl, rfl, HJ0, HKR⟩
      case round =>
        obtain ⟨j, b, hj, rfl, rfl, hbe, hkw⟩ := hrel
        clear HJ0 HKR
        by_cases hjt : j < M
        · have m1 : (j : Int) < (M : Int) := by omega
          have m0 : (0 : Int) ≤ (j : Int) := by omega
          have hjl : j < m.length := by have := HM.out; omega
          obtain ⟨g', off', rfl, hg', hc'⟩ := ((HU.out.kept (HK0.out.then HK1.out) (fun _ _ h => h)).kept hkw.out (fun _ _ h => h)).at (k := j) hjl
          have hen := any_nextI m j hjl P
          have HMI := Lib.hid (HIM.out _ (getD_mem m j hjl))
          generalize m.getD j per0 = y at hc' hen HMI
          obtain ⟨ya, yp, yd⟩ := y
          obtain ⟨d0, d1, d2⟩ := hc'
          simp only at d0 d1 d2 HMI
          rw [← HPP.out] at HMI
          generalize impP ⟨ya, yp, yd⟩ P = V at HMI hen
          have HBY := Lib.hid (Bx.new wr ya yp yd 36)
          have hka : Kept (fun _ => False) wr (wr.alloc (.cells #[.string ya, .string yp, .bool yd] 36)) := Kept.alloc _ _ _
          have HBX4 := Lib.hid (HBX.out.stay (hkw.out.then hka))
          have HKJ := Lib.hid (hkw.out.then hka)
          have hq1 : Q1 < wr.heap.size := Nat.lt_of_lt_of_le (World.block_lt_of_cell? W1 _ HBX.out.c0) hkw.out.size
          have hq2 : ¬ Q1 = wr.heap.size := by omega
          obtain ⟨b0, b1, b2⟩ := HBX4.out
          obtain ⟨e0, e1, e2⟩ := HBY.out
          have HJ2 : Hid ((if V then false else b) = !anyI (m.take (j + 1)) P) := Lib.hid (by rw [hen, hbe.out]; cases V <;> cases anyI (m.take j) P <;> rfl)
          clear hg' hka hkw hen hbe
          go_wp2_with fail
          refine (HMI.out _).mono ?_
          clear d0 d1 d2 b0 b1 b2 e0 e1 e2
          generalize wr.alloc (.cells #[.string ya, .string yp, .bool yd] 36) = W4 at *
          generalize wr.heap.size = Q4 at *
          rintro e w5 ⟨rfl, k5⟩
          have HK5 := Lib.hid (HKJ.out.then k5)
          clear k5 HMI
          cases V with
          | false =>
            go_wp2_with fail
            go_roundw
            case rel => exact ⟨j + 1, b, by omega, by go_num, rfl, HJ2, HK5⟩
            case measure => simp [intOf]; omega
          | true =>
            go_wp2_with fail
            go_roundw
            case rel => exact ⟨j + 1, false, by omega, by go_num, rfl, HJ2, HK5⟩
            case measure => simp [intOf]; omega
        · obtain rfl : j = M := by omega
          have hbf := hbe.out
          rw [HM.out, List.take_length] at hbf
          have hst := HST.out
          rw [← hbf] at hst
          have HRW := Lib.hid (HR1.out.kept hkw.out (fun _ _ h => h))
          have HKW := Lib.hid (HK1.out.then hkw.out)
          obtain ⟨b0, b1, b2⟩ := HBX.out.stay hkw.out
          clear hbf hbe hkw HST
          cases b with
          | false =>
            rw [if_neg (by decide)] at hst
            have HI2 : Hid (RmInv w wr (.slice a acc.length c) acc (fun x => !anyI m x) r (k + 1)) := Lib.hid ⟨HRW.out, hst.symm, HKW.out⟩
            clear hst
            go_wp2_with fail
            go_roundw
            case rel => exact ⟨k + 1, a, c, acc, by omega, by go_num, rfl, HI2⟩
            case measure => simp [intOf]; omega
          | true =>
            rw [if_pos rfl, HPP.out] at hst
            have HST := Lib.hid hst
            clear hst
            go_wp2_with (first
              | (at_builtin; refine wpList_pushQ Tryz.underlying28 info_perR (by rfl) _ _ rfl rfl w.heap.size _ acc wr.heap.size ⟨pa, pp, pd⟩ rfl rfl (HRW.out.alloc _) (Bx.new wr pa pp pd 36) (by omega) (by have := HKW.out.size; simp; omega) ?_; intro a' c' w4 hown4 hk4; have HOWN4 := Lib.hid hown4; have HKK4 := Lib.hid hk4; clear hown4 hk4)
              | fail)
            have hka : Kept (fun _ => False) wr (wr.alloc (.cells #[.string pa, .string pp, .bool pd] 36)) := Kept.alloc _ _ _
            have HI2 : Hid (RmInv w w4 (.slice a' (acc ++ [Per.mk pa pp pd]).length c') (acc ++ [⟨pa, pp, pd⟩]) (fun x => !anyI m x) r (k + 1)) :=
              Lib.hid ⟨by rw [List.length_append]; exact HOWN4.out, HST.out.symm, (HKW.out.then hka).trans HKK4.out (fun _ _ h => h) (fun i hi e => by have := (HLT.out i e).1; omega)⟩
            clear hka
            go_roundw
            case rel => exact ⟨k + 1, a', c', acc ++ [Per.mk pa pp pd], by omega, by go_num, by rw [List.length_append]; rfl, HI2⟩
            case measure => simp [intOf]; omega
    · obtain rfl : k = N := by omega
      have hq : acc = minS r m := by
        have := hI.out.eq
        rw [HN.out, List.take_length] at this
        exact this
      subst hq
      have HRW := Lib.hid (hI.out.row.low HK0.out.size); have HKW := Lib.hid (HK0.out.then hI.out.kept)
      clear hI
      go_wp2_with fail
      go_ret
      exact ⟨a, c, r, rfl, HN1.out, HRW.out, HKW.out⟩
end Go.Proofs.YtnnakllgfaaejaaGreatDoor
/-
  Permissions: Common.
-/
namespace Go.Proofs.YtnnakllgfaaejaaGreatDoor
open Go.RowKit
set_option linter.unusedSimpArgs false
set_option linter.unusedVariables false
set_option maxRecDepth 100000

/-- What the two lists imply of each other. -/
def comL (l bl : List Per) : List Per := l.filter (anyI bl) ++ bl.filter (anyI l)
theorem bdQ_filter {l : List Per} (h : bdQ l) (f : Per → Bool) : bdQ (l.filter f) := fun x hx => h x (List.mem_filter.1 hx).1
theorem bdQ_append {l m : List Per} (h : bdQ l) (k : bdQ m) : bdQ (l ++ m) := fun x hx => (List.mem_append.1 hx).elim (h x) (k x)

theorem wpList_catQ {P : Program} {ts : TypeId} {w : World} {ops : Array Oper} {rest : List Oper} {o : Oper} {a : Act} {Q : Exit → Act → World → Prop} (hw : Region.wanted o (yielded ops a.tmps) = true) (s x : Operand)
    (ho : o.op = .call { callee := .builtin .append, args := #[s, x], argTypes := #[ts, ts] }) (hty : o.type = ts) (v u : Value) (hd : a.eval s = v) (hs : a.eval x = u) {v' : Value} {w' : World}
    (hr : (Builtin.append_ #[ts, ts] ts #[v, u]).run P w = .ok v' w') (h : wpList P ops Q rest (a.put o.dst v') w') : wpList P ops Q (o :: rest) a w :=
  wpList_appendQ_run hw s x _ _ ho _ _ hd hs (by rw [hty]; exact hr) h

set_option maxHeartbeats 1600000 in
theorem pcommon_any (v u : Value) (l bl : List Per) (w : World) (h : Pers w v l) (hu : Pers w u bl) (hb : bdQ l) (hbb : bdQ bl) (hl : l.length ≤ 20000) (hbl : bl.length ≤ 20000) :
    Calls Tryz.prog 19 #[v, u] w fun e w' => ∃ v' r, e = .returned v' ∧ NormRes w w' (comL l bl) v' r := by
  have HI1 := Lib.hid (implied_any w v u l bl h hu hb hbb (by omega) (by omega))
  have HI2 := Lib.hid (fun W (hk : Kept (fun _ => False) w W) => implied_any W u v bl l (hu.kept hk (fun _ _ h => h)) (h.kept hk (fun _ _ h => h)) hbb hb (by omega) (by omega))
  have HBD := Lib.hid (bdQ_append (bdQ_filter hb (anyI bl)) (bdQ_filter hbb (anyI l)))
  have HL1 := Lib.hid (Nat.le_trans (List.length_filter_le (anyI bl) l) hl)
  have HL2 := Lib.hid (Nat.le_trans (List.length_filter_le (anyI l) bl) hbl)
  unfold comL
  generalize l.filter (anyI bl) = f at *
  generalize bl.filter (anyI l) = g at *
  clear h hu hb hbb hl hbl
  go_enter Tryz.func19, Tryz.ntmps19
  go_wp2_with fail
  refine HI1.out.mono ?_
  rintro e w2 ⟨a1, c1, rfl, h1, k1⟩
  have H1 := Lib.hid h1; have K1 := Lib.hid k1
  clear h1 k1 HI1
  go_wp2_with fail
  refine (HI2.out _ K1.out).mono ?_
  rintro e w3 ⟨a2, c2, rfl, h2, k2⟩
  have H2 := Lib.hid h2; have K2 := Lib.hid k2
  clear h2 k2 HI2
  obtain ⟨a3, c3, w4, hr, hf, hk⟩ := append_pers_run Tryz.underlying27 info_perQ (H1.out.kept K2.out (fun _ _ h => h)) H2.out.pers (by have := HL1.out; have := HL2.out; omega) (by have := K1.out.size; have := K2.out.size; omega)
  obtain ⟨L, hL⟩ : ∃ L, L = (f ++ g).length := ⟨_, rfl⟩
  rw [← hL] at hr hf
  have HR := Lib.hid hr
  have K4 : Hid (Kept (fun _ => False) w w4) := Lib.hid ((K1.out.then K2.out).trans hk (fun _ _ h => h) (fun i hi e => by have := (H1.out.lt i e).1; omega))
  have HN := Lib.hid (normal_any w4 _ _ hf.pers HBD.out (by have := HL1.out; have := HL2.out; rw [List.length_append]; omega))
  obtain ⟨F, hF⟩ : ∃ F, F = f.length := ⟨_, rfl⟩
  rw [← hF] at HR ⊢
  clear hr hf hk hL hF
  go_wp2_with (first
    | (at_builtin; refine wpList_catQ (ts := 27) (by rfl) _ _ rfl rfl _ _ rfl rfl HR.out ?_)
    | fail)
  refine HN.out.mono ?_
  rintro e w5 ⟨v5, r, rfl, h5⟩
  have H5 := Lib.hid h5
  clear h5 HN
  go_wp2_with fail
  go_ret
  exact ⟨v5, r, rfl, H5.out.norm, H5.out.own.low K4.out.size, K4.out.then H5.out.kept, H5.out.len⟩
end Go.Proofs.YtnnakllgfaaejaaGreatDoor
/-
  Permissions: rows of one's own written into; clear.
-/
namespace Go.Proofs.YtnnakllgfaaejaaGreatDoor
open Go.RowKit Go.Shelf
set_option linter.unusedVariables false
set_option linter.unusedSimpArgs false

theorem heap_setCells_same (g : Nat) (e : TypeId) : ∀ (vs : List Value) (o : Nat) (w : World) (cur : Array Value), w.heap[g]? = some (.cells cur e (0, 0)) → o + vs.length ≤ cur.size →
    ∃ cur' : Array Value, (w.setCells g o vs).heap[g]? = some (.cells cur' e (0, 0)) ∧ cur'.size = cur.size ∧ ∀ j, cur'.toList[j]? = if o ≤ j ∧ j < o + vs.length then vs[j - o]? else cur.toList[j]?
  | [], o, w, cur, h, _ => ⟨cur, h, rfl, fun j => by rw [if_neg (by simp)]⟩
  | v :: r, o, w, cur, h, hl => by
    have hl' : o + 1 + r.length ≤ cur.size := by simp only [List.length_cons] at hl; omega
    obtain ⟨cur', h1, h2, h3⟩ := heap_setCells_same g e r (o + 1) (w.setCell ⟨g, o, none⟩ v) (cur.setIfInBounds o v) (heap_setCell_same w g o cur e v h) (by simpa using hl')
    refine ⟨cur', by rw [World.setCells]; exact h1, by simpa using h2, fun j => ?_⟩
    rw [h3 j]
    by_cases hj : j = o
    · subst hj
      rw [if_neg (by omega), if_pos (by simp), Nat.sub_self]
      simp only [Array.toList_setIfInBounds, List.getElem?_cons_zero]
      rw [List.getElem?_set_self (by simp; omega)]
    · by_cases hin : o + 1 ≤ j ∧ j < o + 1 + r.length
      · rw [if_pos hin, if_pos (by simp only [List.length_cons]; omega)]
        rw [show j - o = (j - (o + 1)) + 1 by omega, List.getElem?_cons_succ]
      · rw [if_neg hin, if_neg (by simp only [List.length_cons]; omega)]
        rw [Array.toList_setIfInBounds, List.getElem?_set_ne (by omega)]

theorem setCells_kept (g : Nat) : ∀ (vs : List Value) (o : Nat) (w : World), Kept (fun k => k = g) w (w.setCells g o vs)
  | [], _, w => Kept.refl _ _
  | v :: r, o, w => by
    rw [World.setCells]
    exact (Kept.setCell (fun k => k = g) w ⟨g, o, none⟩ v rfl).trans (setCells_kept g r (o + 1) _) (fun _ _ h => h) (fun _ _ h => h)

theorem row_set {T : TypeId} {B g n c n' : Nat} {w : World} {xs ys vs : List Value} {z : Nat} (h : w.ownsRow B T z (.slice (some ⟨g, 0, none⟩) n c) n xs) (o : Nat) (hn' : n' ≤ c) (hv : o + vs.length ≤ c * z) (hy : ys.length = n' * z)
    (he : ∀ cur : List Value, cur.length = c * z → cur.take (n * z) = xs → ∀ j, j < n' * z → ys[j]? = if o ≤ j ∧ j < o + vs.length then vs[j - o]? else cur[j]?) :
    (w.setCells g o vs).ownsRow B T z (.slice (some ⟨g, 0, none⟩) n' c) n' ys := by
  rcases h.2 with ⟨h', _⟩ | ⟨g', cap', cur, h', hb, hg, hnc, hcm, hcs, htake⟩
  · cases h'
  · cases h'
    obtain ⟨cur', h1, h2, h3⟩ := heap_setCells_same g T vs o w cur hg (by omega)
    refine ⟨hy, .inr ⟨g, c, cur', rfl, hb, h1, hn', hcm, by omega, ?_⟩⟩
    apply List.ext_getElem?
    intro j
    have hm : n' * z ≤ c * z := Nat.mul_le_mul_right z hn'
    by_cases hj : j < n' * z
    · rw [List.getElem?_take_of_lt hj, h3 j, he cur.toList (by simpa using hcs) htake j hj]
    · rw [List.getElem?_eq_none (by rw [List.length_take]; omega), List.getElem?_eq_none (by omega)]

theorem take_getElem? {α : Type} {cur X : List α} {m j : Nat} (h : cur.take m = X) (hj : j < m) : cur[j]? = X[j]? := by
  rw [← h, List.getElem?_take_of_lt hj]

theorem flatQ_cut (l : List Per) (k : Nat) (hk : k ≤ l.length) : flatQ (l.take k) = (flatQ l).take (k * 3) ∧ flatQ (l.drop k) = (flatQ l).drop (k * 3) := by
  have h : flatQ l = flatQ (l.take k) ++ flatQ (l.drop k) := by rw [← flatQ_append, List.take_append_drop]
  have hl : (flatQ (l.take k)).length = k * 3 := by rw [flatQ_length, List.length_take, Nat.min_eq_left hk]
  rw [h, List.take_left' hl, List.drop_left' hl]; exact ⟨rfl, rfl⟩

theorem OwnQ.put {T : TypeId} {B : Nat} {w : World} {g n c i : Nat} {l : List Per} {x : Per} (h : OwnQ T B w (.slice (some ⟨g, 0, none⟩) n c) l) (hn : n = l.length) (hi : i < n) :
    OwnQ T B (w.setCells g (i * 3) (perC x)) (.slice (some ⟨g, 0, none⟩) n c) (l.set i x) := by
  have hX : (flatQ l).length = n * 3 := by rw [flatQ_length, hn]
  obtain ⟨t1, t2⟩ := flatQ_cut l i (by omega)
  obtain ⟨_, t3⟩ := flatQ_cut l (i + 1) (by omega)
  have lx : (perC x).length = 3 := rfl
  have e2 : flatQ (l.set i x) = (flatQ l).take (i * 3) ++ perC x ++ (flatQ l).drop ((i + 1) * 3) := by
    rw [List.set_eq_take_append_cons_drop, if_pos (by omega), flatQ_append, show flatQ (x :: l.drop (i + 1)) = perC x ++ flatQ (l.drop (i + 1)) from rfl, t1, t3, List.append_assoc]
  unfold OwnQ at h ⊢
  rw [List.length_set, ← hn, e2]
  rw [← hn] at h
  have hnc : n ≤ c ∧ c ≤ maxLen := by
    rcases h.2 with ⟨h', _⟩ | ⟨g', cap', cur, h', hb, hg, hnc, hcm, hcs, htake⟩
    · cases h'
    · cases h'; exact ⟨hnc, hcm⟩
  have ly : ((flatQ l).take (i * 3)).length = i * 3 := by rw [List.length_take, hX, Nat.min_eq_left (by omega)]
  have ld : ((flatQ l).drop ((i + 1) * 3)).length = n * 3 - (i + 1) * 3 := by rw [List.length_drop, hX]
  refine row_set h (i * 3) hnc.1 (by rw [lx]; omega) (by simp only [List.length_append, ly, lx, ld]; omega) (fun cur hc ht j hj => ?_)
  rw [lx]
  by_cases j1 : j < i * 3
  · rw [if_neg (by omega), List.append_assoc, List.getElem?_append_left (by omega), List.getElem?_take_of_lt j1]
    exact (take_getElem? ht hj).symm
  · by_cases j2 : j < i * 3 + 3
    · rw [if_pos (by omega), List.getElem?_append_left (by rw [List.length_append, ly, lx]; omega), List.getElem?_append_right (by omega), ly]
    · rw [if_neg (by omega), List.getElem?_append_right (by rw [List.length_append, ly, lx]; omega), List.length_append, ly, lx, List.getElem?_drop, show (i + 1) * 3 + (j - (i * 3 + 3)) = j by omega]
      exact (take_getElem? ht hj).symm

theorem OwnQ.cellsC {T : TypeId} {B g n c : Nat} {w : World} {l : List Per} (h : OwnQ T B w (.slice (some ⟨g, 0, none⟩) n c) l) : (∀ j, j < c * 3 → (w.cell? ⟨g, j, none⟩).isSome = true) ∧ (∀ j, w.frozen? ⟨g, j, none⟩ = false) ∧ l.length ≤ c ∧ c ≤ maxLen ∧ B ≤ g ∧ g < w.heap.size := by
  have hlt := World.ownsRow.lt h g rfl
  rcases h.2 with ⟨h', _⟩ | ⟨g', cap', cur, h', hb, hg, hnc, hcm, hcs, htake⟩
  · cases h'
  · cases h'
    exact ⟨fun j hj => by rw [cell_of_row w g j cur _ (0, 0) hg]; simp; omega, fun j => frozen_of_row w g j cur _ hg, hnc, hcm, hlt.1, hlt.2⟩

theorem OwnQ.cutTo {T : TypeId} {B g n c m : Nat} {w : World} {l : List Per} (h : OwnQ T B w (.slice (some ⟨g, 0, none⟩) n c) l) (hn : n = l.length) (hm : m ≤ n) (zs : List Value) (hz : m * 3 + zs.length ≤ c * 3) :
    OwnQ T B (w.setCells g (m * 3) zs) (.slice (some ⟨g, 0, none⟩) m c) (l.take m) := by
  obtain ⟨_, _, h3, _⟩ := h.cellsC
  have hl : (l.take m).length = m := by rw [List.length_take]; omega
  unfold OwnQ at h ⊢
  rw [hl]
  rw [← hn] at h
  have t1 := (flatQ_cut l m (by omega)).1
  have hX : (flatQ l).length = n * 3 := by rw [flatQ_length, hn]
  refine row_set h (m * 3) (by omega) hz (by rw [flatQ_length, hl]) (fun cur hc ht j hj => ?_)
  rw [if_neg (by omega), t1, List.getElem?_take_of_lt hj]
  exact (take_getElem? ht (by omega)).symm

theorem OwnQ.slot {T : TypeId} {B n c i : Nat} {a : Option Addr} {w : World} {l : List Per} (h : OwnQ T B w (.slice a n c) l) (hn : l.length = n) (hi : i < n) :
    ∃ g y0 y1 y2, a = some ⟨g, 0, none⟩ ∧ B ≤ g ∧ g < w.heap.size ∧ w.cell? ⟨g, i * 3, none⟩ = some y0 ∧ w.cell? ⟨g, i * 3 + 1, none⟩ = some y1 ∧ w.cell? ⟨g, i * 3 + 2, none⟩ = some y2 ∧ w.frozen? ⟨g, i * 3, none⟩ = false ∧ w.frozen? ⟨g, i * 3 + 1, none⟩ = false ∧ w.frozen? ⟨g, i * 3 + 2, none⟩ = false := by
  have h0 := h
  obtain ⟨g, off, rfl, hg, hc⟩ := h.pers.at (k := i) (by omega)
  unfold OwnQ at h
  rw [hn] at h
  rcases h.2 with ⟨h', _⟩ | ⟨g', c', cur, h', hb, hg', h1, h2, h3, h4⟩
  · cases h'
  · cases h'
    obtain ⟨a0, a1, a2⟩ := hc
    rw [Nat.zero_add] at a0 a1 a2
    exact ⟨g, _, _, _, rfl, hb, hg, a0, a1, a2, World.ownsRow.frozenAt h _, World.ownsRow.frozenAt h _, World.ownsRow.frozenAt h _⟩

section
variable {P : Program}
theorem run_clear_wide (w : World) (t e ty : TypeId) (z : Value) (ht : P.underlying t = some (.slice e)) (hv : ∀ w, (zeroValue e).run P w = .ok z w) (b o n c : Nat) (hn : 0 < n) (zs : List Value) (hz : (Builtin.zeroCells z.cells n).toList = zs)
    (h1 : ∀ v ∈ zs, v.oneCell' = true) (hc : ∀ j, j < zs.length → (w.cell? ⟨b, o + j, none⟩).isSome = true) (hf : ∀ j, j < zs.length → w.frozen? ⟨b, o + j, none⟩ = false) :
    (Builtin.clear_ #[t] ty #[.slice (some ⟨b, o, none⟩) n c]).run P w = .ok (.tuple #[]) (w.setCells b o zs) := by
  have hst := run_storeCells_cells (P := P) b o zs 0 w (by simpa using hc) (by simpa using hf) h1
  simp only [Nat.add_zero] at hst
  obtain ⟨m, rfl⟩ : ∃ m, n = m + 1 := ⟨n - 1, by omega⟩
  simp [Builtin.clear_, run_underlying ht, hv, hz, hst]
theorem wpList_clear_run (w : World) {ops : Array Oper} {rest : List Oper} {o : Oper} {a : Act} {Q : Exit → Act → World → Prop} (hgd : o.guard = none) (x : Operand) (t : TypeId)
    (ho : o.op = .call { callee := .builtin .clear, args := #[x], argTypes := #[t] }) (v : Value) (hx : a.eval x = v) {v' : Value} {w' : World}
    (hr : (Builtin.clear_ #[t] o.type #[v]).run P w = .ok v' w') (h : wpList P ops Q rest (a.put o.dst v') w') : wpList P ops Q (o :: rest) a w := by
  refine wpList_plain hgd fun K hK => ?_
  unfold Oper.wp execOp
  simp only [ho, resolve, invoke, builtin, Sem.run_bind, Sem.run_pure, Result.andThen_ok, List.map_toArray, List.map_cons, List.map_nil, hx, hr]
  exact hK _ _ h
end


def zeroQ (n : Nat) : List Value := (Builtin.zeroCells (Value.agg #[.string ⟨#[]⟩, .string ⟨#[]⟩, .bool false]).cells n).toList
theorem zeroQ_length (n : Nat) : (zeroQ n).length = n * 3 := by
  unfold zeroQ
  rw [Array.length_toList, size_zeroCells]
  rfl
theorem zeroQ_one (n : Nat) : ∀ v ∈ zeroQ n, v.oneCell' = true := fun v hv => by
  unfold zeroQ at hv
  simp only [Builtin.zeroCells, Array.toList_map, List.mem_map] at hv
  obtain ⟨i, _, rfl⟩ := hv
  have h3 : i % 3 = 0 ∨ i % 3 = 1 ∨ i % 3 = 2 := by omega
  have e : (Value.agg #[.string ⟨#[]⟩, .string ⟨#[]⟩, .bool false]).cells.size = 3 := rfl
  rw [e]
  rcases h3 with h | h | h <;> rw [h] <;> rfl
theorem zero_per (W : World) : (zeroValue 35).run Tryz.prog W = .ok (.agg #[.string ⟨#[]⟩, .string ⟨#[]⟩, .bool false]) W := by kernel_rfl
end Go.Proofs.YtnnakllgfaaejaaGreatDoor
/-
  slices.IndexFunc and slices.DeleteFunc at the method of a set of permissions; Minus.
-/
namespace Go.Proofs.YtnnakllgfaaejaaGreatDoor
open Go.RowKit Go.Shelf Go.Maps Go.WideMaps Go.ChangeMaps
set_option linter.unusedVariables false
set_option linter.unusedSimpArgs false
set_option maxRecDepth 100000

/-- A function that says of each permission whether it is in a set. -/
def FnQ (w : World) (f : Per → Bool) (m : Nat) : Prop := ∀ W, Kept (fun _ => False) w W → ∀ x : Per, x.a.size ≤ 1000000 → x.p.size ≤ 100000 →
  Calls Tryz.prog 35 #[.map (some m), perV x] W fun e w' => e = .returned (.bool (f x)) ∧ Kept (fun _ => False) W w'
theorem FnQ.on {a b : World} {f : Per → Bool} {m : Nat} (h : FnQ a f m) (hk : Kept (fun _ => False) a b) : FnQ b f m := fun W hW => h W (hk.then hW)

def IdxQ (l : List Per) (f : Per → Bool) (i : Int) : Prop := (i = -1 ∧ ∀ k, k < l.length → f (l.getD k per0) = false) ∨ ∃ k : Nat, i = (k : Int) ∧ k < l.length ∧ f (l.getD k per0) = true ∧ ∀ j, j < k → f (l.getD j per0) = false

set_option maxHeartbeats 3200000 in
theorem indexQ_any (w : World) (v : Value) (l : List Per) (f : Per → Bool) (m : Nat) (hv : Pers w v l) (hb : bdQ l) (hf : FnQ w f m) :
    Calls Tryz.prog 49 #[v, .func (.func 35) #[.map (some m)] #[]] w fun e w' =>
      ∃ i : Int, e = .returned (.int .i64 i) ∧ IdxQ l f i ∧ Kept (fun _ => False) w w' := by
  obtain ⟨a, c, rfl, h1, h2⟩ := hv.form
  have HV := Lib.hid hv; have HF := Lib.hid hf; have HBD := Lib.hid hb
  unfold maxLen at h2
  clear hv hf hb
  go_enter Tryz.func49, Tryz.ntmps49
  go_wp2_with fail
  go_loopw [8] (fun iv wr => ∃ k : Nat, k ≤ l.length ∧ iv = .int .i64 (k : Int) ∧ Hid (∀ j, j < k → f (l.getD j per0) = false) ∧ Hid (Kept (fun _ => False) w wr)) (fun iv _ => l.length - (intOf iv).toNat)
  case atStart => exact ⟨0, Nat.zero_le _, rfl, Lib.hid (fun j hj => absurd hj (by omega)), Lib.hid (Kept.refl _ _)⟩
  case round =>
    obtain ⟨k, hk, rfl, hlo, hkw⟩ := hrel
    by_cases hlt : k < l.length
    · have l1 : (k : Int) < (l.length : Int) := by omega
      have l0 : (0 : Int) ≤ (k : Int) := by omega
      obtain ⟨g, off, rfl, hg, hc⟩ := (HV.out.kept hkw.out (fun _ _ h => h)).at (k := k) hlt
      have hbx := HBD.out _ (getD_mem l k hlt)
      have HC := Lib.hid (HF.out wr hkw.out (l.getD k per0) hbx.1 hbx.2)
      obtain ⟨b, hb⟩ : ∃ b, b = f (l.getD k per0) := ⟨_, rfl⟩
      rw [← hb] at HC
      generalize hx : l.getD k per0 = x at hc HC hb
      obtain ⟨xa, xp, xd⟩ := x
      unfold perV at HC
      obtain ⟨c0, c1, c2⟩ := hc
      simp only at c0 c1 c2 HC
      have HX := Lib.hid hx; have HBb := Lib.hid hb
      clear hx hb hg hbx
      go_wp2_with (first | (go_at_call 35; refine HC.out.mono ?_; rintro e w2 ⟨rfl, k2⟩
                            have K2 : Hid (Kept (fun _ => False) w w2) := Lib.hid (hkw.out.then k2)
                            clear k2
                            cases b))
      · have hI : Hid (∀ j, j < k + 1 → f (l.getD j per0) = false) := Lib.hid fun j hj => by
          rcases Nat.lt_or_ge j k with h | h
          · exact hlo.out j h
          · obtain rfl : j = k := by omega
            rw [HX.out]; exact HBb.out.symm
        go_roundw
        case rel => first | exact ⟨k + 1, by omega, by go_num, hI, K2⟩ | ((repeat apply Exists.intro); exact ⟨⟨k + 1, by omega, by go_num, hI, K2⟩, rfl⟩)
        case measure => simp [intOf]; omega
      · go_ret
        exact ⟨_, rfl, Or.inr ⟨k, rfl, hlt, by rw [HX.out]; exact HBb.out.symm, hlo.out⟩, K2.out⟩
    · obtain rfl : k = l.length := by omega
      go_wp2_with fail
      go_ret
      exact ⟨_, rfl, Or.inl ⟨rfl, hlo.out⟩, hkw.out⟩

def keepQ (f : Per → Bool) (x : Per) : Bool := !f x

/-- What DeleteFunc's loop keeps: the row, written up to i; read up to j. -/
structure DelQ (w wr : World) (B g n c i j : Nat) (l : List Per) (f : Per → Bool) (S : List Per) : Prop where
  own : OwnQ 35 B wr (.slice (some ⟨g, 0, none⟩) n c) S
  len : S.length = n
  done : S.take i = (l.take j).filter (keepQ f)
  rest : S.drop j = l.drop j
  kept : Kept (fun k => k = g) w wr
theorem take_succ_getQ (l : List Per) (j : Nat) (hj : j < l.length) : l.take (j + 1) = l.take j ++ [l.getD j per0] := by
  rw [List.take_add_one]; simp [List.getD, hj]

theorem DelQ.get {w wr : World} {B g n c i j : Nat} {l S : List Per} {d : Per → Bool} (h : DelQ w wr B g n c i j l d S) (hn : n = l.length) (hj : j < n) : S.getD j per0 = l.getD j per0 := by
  have h1 : (S.drop j)[0]? = (l.drop j)[0]? := by rw [h.rest]
  rw [List.getElem?_drop, List.getElem?_drop, Nat.add_zero] at h1
  simp [List.getD, h1]
theorem DelQ.skip {w wr : World} {B g n c i j : Nat} {l S : List Per} {d : Per → Bool} (h : DelQ w wr B g n c i j l d S) (hn : n = l.length) (hj : j < n) (hx : keepQ d (l.getD j per0) = false) : DelQ w wr B g n c i (j + 1) l d S := by
  refine ⟨h.own, h.len, ?_, ?_, h.kept⟩
  · rw [take_succ_getQ l j (by omega), List.filter_append, h.done]
    rw [List.filter_cons, if_neg (by rw [hx]; simp), List.filter_nil, List.append_nil]
  · rw [← List.drop_drop, ← List.drop_drop, h.rest]
theorem DelQ.take {w wr : World} {B g n c i j : Nat} {l S : List Per} {d : Per → Bool} (h : DelQ w wr B g n c i j l d S) (hn : n = l.length) (hij : i < j) (hj : j < n) (hx : keepQ d (l.getD j per0) = true) : DelQ w (wr.setCells g (i * 3) (perC (l.getD j per0))) B g n c (i + 1) (j + 1) l d (S.set i (l.getD j per0)) := by
  have hil : i < S.length := by rw [h.len]; omega
  refine ⟨h.own.put h.len.symm (by omega), by rw [List.length_set]; exact h.len, ?_, ?_, h.kept.trans (setCells_kept g _ _ _) (fun _ _ h => h) (fun _ _ h => h)⟩
  · rw [take_succ_getQ l j (by omega), List.filter_append, ← h.done, List.take_add_one, List.take_set_of_le (Nat.le_refl i)]
    rw [List.filter_cons, if_pos hx, List.filter_nil, List.getElem?_set_self hil]
    rfl
  · rw [List.drop_set_of_lt (by omega), ← List.drop_drop, ← List.drop_drop, h.rest]
theorem DelQ.on {w a b : World} {B g n c i j : Nat} {l S : List Per} {d : Per → Bool} (h : DelQ w a B g n c i j l d S) (hk : Kept (fun _ => False) a b) : DelQ w b B g n c i j l d S :=
  ⟨h.own.kept hk (fun _ _ h => h), h.len, h.done, h.rest, h.kept.trans hk (fun _ _ h => h) (fun _ _ h => h.elim)⟩


set_option maxHeartbeats 1600000 in
theorem deleteQ_any (w : World) (v : Value) (l : List Per) (B m : Nat) (d : Per → Bool) (hown : OwnQ 35 B w v l) (hb : bdQ l) (hl : l.length ≤ 1000000) (hF : ∀ W, Kept (blk v) w W → FnQ W d m) :
    Calls Tryz.prog 34 #[v, .func (.func 35) #[.map (some m)] #[]] w fun e w' =>
      ∃ v', e = .returned v' ∧ OwnQ 35 B w' v' (l.filter (keepQ d)) ∧ Kept (blk v) w w' := by
  have HO := Lib.hid hown; have HBD := Lib.hid hb
  have HI := Lib.hid (indexQ_any w v l d m hown.pers hb (hF w (Kept.refl _ _)))
  have HF := Lib.hid hF

  obtain ⟨a0, c, rfl, h1, h2⟩ := hown.form
  obtain ⟨n, hn⟩ : ∃ n, n = l.length := ⟨_, rfl⟩
  rw [← hn] at HO HI h1 ⊢
  have HN := Lib.hid hn
  unfold maxLen at h2
  have hnl : n ≤ 1000000 := by omega
  clear hown hF hb hn hl
  go_enter Tryz.func34, Tryz.ntmps34
  go_wp2_with (first | (go_at_call 49; with_reducible refine HI.out.mono ?_; rintro e w1 ⟨q, rfl, hq, k1⟩
                        have K1 := Lib.hid k1; clear k1
                        rcases hq with ⟨rfl, hall⟩ | ⟨i0, rfl, hi0, hx0, hlo0⟩
                        all_goals (try (have hi0n : i0 < n := by have := HN.out; omega))))
  · go_ret
    refine ⟨_, rfl, ?_, K1.out.mono fun _ _ h => h.elim⟩
    have : l.filter (keepQ d) = l := List.filter_eq_self.2 fun y hy => by
      obtain ⟨j, hj, rfl⟩ := List.getElem_of_mem hy
      have := hall j hj
      rw [show l.getD j per0 = l[j] by simp [List.getD, hj]] at this
      unfold keepQ; rw [this]; rfl
    rw [this]
    exact HO.out.kept K1.out (fun _ _ h => h)
  · obtain ⟨g, rfl⟩ : ∃ g, a0 = some ⟨g, 0, none⟩ := by
      rcases HO.out.2 with ⟨h, h'⟩ | ⟨g, _, _, h, _⟩
      · have := HN.out; omega
      · cases h; exact ⟨g, rfl⟩
    have hinv : Hid (DelQ w w1 B g n c i0 (i0 + 1) l d l) := by
      refine Lib.hid ⟨HO.out.kept K1.out (fun _ _ h => h), HN.out.symm, ?_, rfl, K1.out.mono fun _ _ h => h.elim⟩
      rw [take_succ_getQ l i0 hi0, List.filter_append]
      have e1 : (l.take i0).filter (keepQ d) = l.take i0 := List.filter_eq_self.2 fun y hy => by
        obtain ⟨j, hj, rfl⟩ := List.getElem_of_mem hy
        rw [List.length_take] at hj
        have := hlo0 j (by omega)
        rw [show l.getD j per0 = l[j] by simp [List.getD, show j < l.length by omega]] at this
        rw [List.getElem_take]
        unfold keepQ; rw [this]; rfl
      have e2 : keepQ d (l.getD i0 per0) = false := by unfold keepQ; rw [hx0]; rfl
      rw [e1, List.filter_cons, if_neg (by rw [e2]; simp), List.filter_nil, List.append_nil]
    obtain ⟨_, _, _, _, hBg, hgw⟩ := HO.out.cellsC
    clear hlo0 hx0 hi0 HI
    go_wp2_with fail
    go_loopw [5, 6] (fun iv jv wr => ∃ i j : Nat, ∃ S, iv = .int .i64 (i : Int) ∧ jv = .int .i64 (j : Int) ∧ i < j ∧ j ≤ n ∧ Hid (DelQ w wr B g n c i j l d S)) (fun _ jv _ => n - (intOf jv).toNat)
    case atStart => exact ⟨i0, i0 + 1, l, rfl, by go_num, by omega, by omega, hinv⟩
    case round =>
      obtain ⟨i, j, S, rfl, rfl, hij, hjn, hdel⟩ := hrel
      clear hinv
      by_cases hlt : j < n
      · have l1 : (j : Int) < (n : Int) := by omega
        have l0 : (0 : Int) ≤ (j : Int) := by omega
        have l2 : (i : Int) < (n : Int) := by omega
        have l3 : (0 : Int) ≤ (i : Int) := by omega
        obtain ⟨g', off, hgg, hg, hc⟩ := hdel.out.own.pers.at (k := j) (by rw [hdel.out.len]; exact hlt)
        obtain ⟨rfl, rfl⟩ : g' = g ∧ off = 0 := by
          injection hgg with hgg; injection hgg with h1 h2; exact ⟨h1.symm, h2.symm⟩
        rw [hdel.out.get HN.out hlt] at hc
        have hbx := HBD.out _ (getD_mem l j (by have := HN.out; omega))
        generalize hx : l.getD j per0 = x at hc hbx
        obtain ⟨xu, xr, xt⟩ := x
        obtain ⟨c0, c1, c2⟩ := hc
        simp only [Nat.zero_add] at c0 c1 c2 hbx
        obtain ⟨b, hb⟩ : ∃ b, b = d ⟨xu, xr, xt⟩ := ⟨_, rfl⟩
        have HDL := Lib.hid (hdel.out.on (Kept.alloc (fun _ => False) wr (.cells #[.string xu, .string xr, .bool xt] 35)))
        have HC := Lib.hid (HF.out (wr.alloc (.cells #[.string xu, .string xr, .bool xt] 35)) (HDL.out.kept.mono fun q _ hq => by show _ = _; rw [hq]; rfl) _ (Kept.refl _ _) ⟨xu, xr, xt⟩ hbx.1 hbx.2)
        rw [← hb] at HC
        unfold perV at HC
        simp only at HC
        obtain ⟨b0, b1, b2⟩ := Bx.new wr xu xr xt 35
        have HX := Lib.hid hx; have HBb := Lib.hid hb
        have HBox := Lib.hid (And.intro b0 (And.intro b1 b2))
        clear hx hb hg hdel b0 b1 b2 hbx
        go_wp2_with fail
        refine HC.out.mono ?_
        obtain ⟨b0, b1, b2⟩ := HBox.out
        clear HC HBox c0 c1 c2
        generalize wr.alloc (.cells #[.string xu, .string xr, .bool xt] 35) = W2 at *
        generalize wr.heap.size = Q at *
        rintro e w3 ⟨rfl, k3⟩
        have e0 : w3.cell? ⟨Q, 0, none⟩ = some (.string xu) := (k3.cell (World.block_lt_of_cell? W2 _ b0) (fun h => h)).trans b0
        have e1 : w3.cell? ⟨Q, 1, none⟩ = some (.string xr) := (k3.cell (World.block_lt_of_cell? W2 _ b1) (fun h => h)).trans b1
        have e2 : w3.cell? ⟨Q, 2, none⟩ = some (.bool xt) := (k3.cell (World.block_lt_of_cell? W2 _ b2) (fun h => h)).trans b2
        have HD3 := Lib.hid (HDL.out.on k3)
        clear b0 b1 b2 k3 HDL
        cases b
        · obtain ⟨g2, y0, y1, y2, hgg2, hb2, hs2, z0, z1, z2, f0, f1, f2⟩ := HD3.out.own.slot HD3.out.len (show i < n by omega)
          obtain rfl : g' = g2 := by injection hgg2 with h; injection h
          have hI : Hid (DelQ w (w3.setCells g' (i * 3) (perC ⟨xu, xr, xt⟩)) B g' n c (i + 1) (j + 1) l d (S.set i ⟨xu, xr, xt⟩)) := by
            have := HD3.out.take HN.out hij hlt (by rw [HX.out]; unfold keepQ; rw [← HBb.out]; rfl)
            rw [HX.out] at this
            exact Lib.hid this
          go_wp2_with fail
          go_roundw
          case rel => first | exact ⟨i + 1, j + 1, _, by go_num, by go_num, by omega, by omega, hI⟩ | ((repeat apply Exists.intro); exact ⟨⟨i + 1, j + 1, _, by go_num, by go_num, by omega, by omega, hI⟩, rfl⟩)
          case measure => simp [intOf]; omega
        · have hI := Lib.hid (HD3.out.skip HN.out hlt (by rw [HX.out]; unfold keepQ; rw [← HBb.out]; rfl))
          go_wp2_with fail
          go_roundw
          case rel => first | exact ⟨i, j + 1, S, rfl, by go_num, by omega, by omega, hI⟩ | ((repeat apply Exists.intro); exact ⟨⟨i, j + 1, S, rfl, by go_num, by omega, by omega, hI⟩, rfl⟩)
          case measure => simp [intOf]; omega
      · obtain rfl : j = n := by omega
        obtain ⟨cc1, cc2, _⟩ := hdel.out.own.cellsC
        have l2 : (i : Int) ≤ (j : Int) := by omega
        have l3 : (0 : Int) ≤ (i : Int) := by omega
        have l4 : ¬ (c = i) := by omega
        have l5 : i ≤ j := by omega
        have l6 : i ≤ c := by omega
        have l7 : (i : Int) ≤ (c : Int) := by omega
        have hcl : ∀ ty sc, (Builtin.clear_ #[27] ty #[.slice (some ⟨g, i * 3, none⟩) (j - i) sc]).run Tryz.prog wr = .ok (.tuple #[]) (wr.setCells g (i * 3) (zeroQ (j - i))) := fun ty sc =>
          run_clear_wide wr _ 35 ty _ Tryz.underlying27 zero_per g (i * 3) (j - i) sc (by omega) (zeroQ (j - i)) rfl (zeroQ_one _) (fun q hq => cc1 _ (by rw [zeroQ_length] at hq; omega)) (fun q hq => cc2 _)
        have hres := hdel.out.own.cutTo hdel.out.len.symm (m := i) (by omega) (zeroQ (j - i)) (by rw [zeroQ_length]; omega)
        rw [hdel.out.done, List.take_of_length_le (by have := HN.out; omega)] at hres
        have HR := Lib.hid hres
        have HK : Hid (Kept (fun k => k = g) w (wr.setCells g (i * 3) (zeroQ (j - i)))) := Lib.hid (hdel.out.kept.trans (setCells_kept g _ _ _) (fun _ _ h => h) (fun _ _ h => h))
        clear hres cc1 cc2 hdel
        go_wp2_with (at_builtin; refine wpList_clear_run _ rfl _ _ rfl _ rfl (hcl _ _) ?_)
        go_ret
        exact ⟨_, rfl, HR.out, HK.out.mono fun q _ hq => by show _ = _; rw [hq]; rfl⟩

end Go.Proofs.YtnnakllgfaaejaaGreatDoor
/-
  permission.Minus.
-/
namespace Go.Proofs.YtnnakllgfaaejaaGreatDoor
open Go.RowKit Go.Maps Go.WideMaps Go.ChangeMaps
set_option linter.unusedSimpArgs false
set_option linter.unusedVariables false
set_option maxRecDepth 100000

theorem FnQ.of_map {w : World} {m n : Nat} {D : DataW Unit} {l : List Per} (h : OwnMQ w m n D) (hM : MapQ D (memP l)) : FnQ w (anyI l) m := fun W hW x h1 h2 => simplies_any W m n D l x (ownMQ_kept h hW (fun h => h)) hM h1 h2

set_option maxHeartbeats 1600000 in
theorem pminus_any (v u : Value) (l bl : List Per) (w : World) (h : Pers w v l) (hu : Pers w u bl) (hb : bdQ l) (hbb : bdQ bl) (hl : l.length ≤ 50000) (hbl : bl.length ≤ 50000) :
    Calls Tryz.prog 18 #[v, u] w fun e w' => ∃ v' r, e = .returned v' ∧ NormS l r ∧ OwnQ 35 w.heap.size w' v' (minS r bl) ∧ Kept (fun _ => False) w w' := by
  have HN1 := Lib.hid (normal_any w v l h hb hl)
  have HSO := Lib.hid (fun W (hk : Kept (fun _ => False) w W) => setOf_any W u bl (hu.kept hk (fun _ _ h => h)) hbb (by omega))
  have HBD := Lib.hid hb
  clear h hu hb hbb
  go_enter Tryz.func18, Tryz.ntmps18
  go_wp2_with fail
  refine HN1.out.mono ?_
  rintro e w2 ⟨v1, r, rfl, h1⟩
  have H1 := Lib.hid h1
  clear h1 HN1
  go_wp2_with fail
  refine (HSO.out _ H1.out.kept).mono ?_
  rintro e w3 ⟨m, n, D, rfl, m1, m2, m3, m4, k3⟩
  have K3 := Lib.hid (H1.out.kept.then k3)
  have hbr : bdQ r := fun x hx => HBD.out x ((H1.out.norm.2 x).1 hx).1
  have HR3 := Lib.hid (H1.out.own.kept k3 (fun _ _ h => h))
  have HLT : Hid (∀ j, v1.ownBlock = some j → w.heap.size ≤ j ∧ j < w2.heap.size) := Lib.hid fun j hj => H1.out.own.lt j hj
  have HSZ := Lib.hid k3.size
  have HDL := Lib.hid (deleteQ_any w3 v1 r w.heap.size m (anyI bl) HR3.out hbr (by have := H1.out.len; omega) (fun W hW => FnQ.of_map (ownMQ_kept m1 hW (fun e => by have := (HLT.out m e).2; omega)) m2))
  clear m1 m2 m3 m4 k3 HSO hbr
  go_wp2_with fail
  refine HDL.out.mono ?_
  rintro e w4 ⟨v4, rfl, o4, k4⟩
  have O4 := Lib.hid o4
  have K4 : Hid (Kept (fun _ => False) w w4) := Lib.hid (K3.out.trans k4 (fun _ _ h => h) (fun i hi e => by have := (HLT.out i e).1; omega))
  clear o4 k4 HDL
  go_wp2_with fail
  go_ret
  exact ⟨v4, r, rfl, H1.out.norm, O4.out, K4.out⟩
end Go.Proofs.YtnnakllgfaaejaaGreatDoor
/-
  arbaclaw11.awake returns true.
-/
namespace Go.Proofs.YtnnakllgfaaejaaGreatDoor
open Go.RowKit
set_option linter.unusedSimpArgs false
set_option linter.unusedVariables false

def sRead : ByteArray := ⟨#[114, 101, 97, 100]⟩
def sWrite : ByteArray := ⟨#[119, 114, 105, 116, 101]⟩
def pA : ByteArray := ⟨#[47, 97]⟩
def pAB : ByteArray := ⟨#[47, 97, 47, 98]⟩
def pab : ByteArray := ⟨#[47, 97, 98]⟩
def pC : ByteArray := ⟨#[47, 99]⟩
def awL : List Per := [⟨sRead, pAB, false⟩, ⟨sRead, pA, true⟩, ⟨sWrite, pC, false⟩, ⟨sRead, pAB, true⟩]
def awN : List Per := [⟨sRead, pA, true⟩, ⟨sWrite, pC, false⟩]
theorem awN_sorted : SortQ awN := by
  refine ⟨?_, ?_⟩ <;> decide +kernel
theorem awN_norm : NormS awL awN := by
  refine ⟨awN_sorted, fun x => ?_⟩
  by_cases h : x ∈ awL
  · have hall : ∀ y ∈ awL, (y ∈ awN ↔ okP y = true ∧ excP awL y = false) := by decide +kernel
    rw [hall x h]
    exact ⟨fun e => ⟨h, e⟩, fun e => e.2⟩
  · refine ⟨fun e => absurd ?_ h, fun e => absurd e.1 h⟩
    have hall : ∀ y ∈ awN, y ∈ awL := by decide +kernel
    exact hall x e
theorem awL_small : bdQ awL := by
  have hall : ∀ y ∈ awL, y.a.size ≤ 1000000 ∧ y.p.size ≤ 100000 := by decide +kernel
  exact hall
theorem aw_cov1 : covP ⟨sRead, pA, true⟩ sRead pAB = true := by decide +kernel
theorem aw_cov2 : covP ⟨sRead, pA, true⟩ sRead pab = false := by decide +kernel
theorem aw_txt : txtP ⟨sRead, pA, true⟩ = ⟨#[114, 101, 97, 100, 32, 47, 97, 47, 42]⟩ := by decide +kernel

theorem pers_new (w : World) (cs : Array Value) (T : TypeId) (n : Nat) (l : List Per) (hn : n = l.length) (hcs : cs.toList = flatQ l) (hm : n ≤ maxLen) : Pers (w.alloc (.cells cs T)) (.slice (some ⟨w.heap.size, 0, none⟩) n n) l := by
  subst hn
  refine Or.inr ⟨w.heap.size, 0, l.length, rfl, Nat.le_refl _, hm, by simp, fun i hi => ?_⟩
  obtain ⟨a0, a1, a2⟩ := flatQ_at l i hi
  have hc : ∀ j, (w.alloc (.cells cs T)).cell? ⟨w.heap.size, j, none⟩ = (flatQ l)[j]? := fun j => by
    rw [← hcs]
    unfold World.cell?
    rw [heap_alloc_new]
    simp
  rw [Nat.zero_add]
  exact ⟨(hc _).trans a0, (hc _).trans a1, (hc _).trans a2⟩

set_option maxRecDepth 100000 in
set_option maxHeartbeats 3200000 in
theorem awake11_any (w : World) : Calls Tryz.prog 7 #[] w fun e w' => e = .returned (.bool true) ∧ Kept (fun _ => False) w w' := by
  obtain ⟨W1, hW1⟩ : ∃ W1, W1 = w.alloc (.cells #[.string sRead, .string pA, .bool true] 35) := ⟨_, rfl⟩
  obtain ⟨cs, hcs⟩ : ∃ cs : Array Value, cs = #[.string sRead, .string pAB, .bool false, .string sRead, .string pA, .bool true, .string sWrite, .string pC, .bool false, .string sRead, .string pAB, .bool true] := ⟨_, rfl⟩
  have hsz : W1.heap.size = w.heap.size + 1 := by rw [hW1]; simp
  have hP := pers_new W1 cs 35 4 awL rfl (by rw [hcs]; rfl) (by unfold maxLen; omega)
  have hB := (Bx.new w sRead pA true 35)
  rw [← hW1] at hB
  have hB2 := hB.stay (Kept.alloc (fun _ => False) W1 (.cells cs 35))
  have hK : Kept (fun _ => False) w (W1.alloc (.cells cs 35)) := by rw [hW1]; exact (Kept.alloc _ _ _).then (Kept.alloc _ _ _)
  rw [hsz] at hP
  have HC1 : Hid (∀ W, Calls Tryz.prog 21 #[.agg #[.string sRead, .string pA, .bool true], .string sRead, .string pAB] W fun e w' => e = .returned (.bool true) ∧ Kept (fun _ => False) W w') := fun W => by
    have := pcov_any ⟨sRead, pA, true⟩ sRead pAB (by decide) (by decide) W
    rw [aw_cov1] at this; exact this
  have HC2 : Hid (∀ W, Calls Tryz.prog 21 #[.agg #[.string sRead, .string pA, .bool true], .string sRead, .string pab] W fun e w' => e = .returned (.bool false) ∧ Kept (fun _ => False) W w') := fun W => by
    have := pcov_any ⟨sRead, pA, true⟩ sRead pab (by decide) (by decide) W
    rw [aw_cov2] at this; exact this
  have HTX : Hid (∀ W, Calls Tryz.prog 22 #[.agg #[.string sRead, .string pA, .bool true]] W fun e w' => e = .returned (.string ⟨#[114, 101, 97, 100, 32, 47, 97, 47, 42]⟩) ∧ Kept (fun _ => False) W w') := fun W => by
    have := ptext_any ⟨sRead, pA, true⟩ (by decide) W
    rw [aw_txt] at this; exact this
  have HP := Lib.hid hP; have HB := Lib.hid hB2; have HK := Lib.hid hK
  have HN := Lib.hid (fun W (h : Pers W (.slice (some ⟨w.heap.size + 1, 0, none⟩) 4 4) awL) => normal_any W _ awL h awL_small (by decide))
  clear hP hB hB2 hK hsz
  subst hW1 hcs
  unfold sRead sWrite pA pAB pab pC at *
  go_enter Tryz.func7, Tryz.ntmps7
  go_wp2_with fail
  refine (HN.out _ HP.out).mono ?_
  rintro e w4 ⟨v4, r, rfl, hr⟩
  obtain rfl := hr.norm.unique awN_norm
  have P4 := HP.out.kept hr.kept (fun _ _ h => h)
  have B4 := HB.out.stay hr.kept
  have K4 := Lib.hid (HK.out.then hr.kept)
  have N4 := hr.own.pers
  obtain ⟨g, off, cap, rfl, hc1, hc2, hg, hn⟩ : ∃ g off cap, v4 = .slice (some ⟨g, off, none⟩) 2 cap ∧ 2 ≤ cap ∧ cap ≤ maxLen ∧ g < w4.heap.size ∧ ∀ i, i < awN.length → PerAt w4 g (off + i * 3) (awN.getD i per0) := by
    rcases N4 with ⟨_, h⟩ | ⟨g, off, cap, h, h1, h2, h3, h4⟩
    · cases h
    · exact ⟨g, off, cap, h, h1, h2, h3, h4⟩
  obtain ⟨n0, n1, n2⟩ := hn 0 (by decide)
  obtain ⟨n3, n4, n5⟩ := hn 1 (by decide)
  obtain ⟨q0, q1, q2⟩ : PerAt w4 (w.heap.size + 1) (0 + 2 * 3) (awL.getD 2 per0) := by
    rcases P4 with ⟨h, _⟩ | ⟨g', off', cap', h, _, _, _, h4⟩
    · cases h
    · cases h; exact h4 2 (by decide)
  obtain ⟨b0, b1, b2⟩ := B4
  have hS : ∀ W, Kept (fun _ => False) w4 W → (W.cell? ⟨w.heap.size, 0, none⟩ = some (.string ⟨#[114, 101, 97, 100]⟩) ∧ W.cell? ⟨w.heap.size, 1, none⟩ = some (.string ⟨#[47, 97]⟩) ∧ W.cell? ⟨w.heap.size, 2, none⟩ = some (.bool true)) ∧
      (W.cell? ⟨g, off, none⟩ = some (.string ⟨#[114, 101, 97, 100]⟩) ∧ W.cell? ⟨g, off + 1, none⟩ = some (.string ⟨#[47, 97]⟩) ∧ W.cell? ⟨g, off + 2, none⟩ = some (.bool true)) ∧
      (W.cell? ⟨g, off + 3, none⟩ = some (.string ⟨#[119, 114, 105, 116, 101]⟩) ∧ W.cell? ⟨g, off + 4, none⟩ = some (.string ⟨#[47, 99]⟩) ∧ W.cell? ⟨g, off + 5, none⟩ = some (.bool false)) ∧
      W.cell? ⟨w.heap.size + 1, 6, none⟩ = some (.string ⟨#[119, 114, 105, 116, 101]⟩) ∧ W.cell? ⟨w.heap.size + 1, 7, none⟩ = some (.string ⟨#[47, 99]⟩) ∧ W.cell? ⟨w.heap.size + 1, 8, none⟩ = some (.bool false) := fun W hk => by
    have f : ∀ {p : Addr} {v : Value}, w4.cell? p = some v → W.cell? p = some v := fun {p v} h => (hk.cell (World.block_lt_of_cell? w4 _ h) (fun h => h)).trans h
    exact ⟨⟨f b0, f b1, f b2⟩, ⟨f n0, f n1, f n2⟩, ⟨f n3, f n4, f n5⟩, f q0, f q1, f q2⟩
  have HS := Lib.hid hS
  obtain ⟨⟨b0, b1, b2⟩, ⟨n0, n1, n2⟩, ⟨n3, n4, n5⟩, q0, q1, q2⟩ := hS w4 (Kept.refl _ _)
  clear HN HP HB HK hr N4 P4 hS
  unfold maxLen at hc2
  generalize w.heap.size = Q at *
  go_wp2_with fail
  go_region_held3 (fun W => (W.cell? ⟨Q, 0, none⟩ = some (.string ⟨#[114, 101, 97, 100]⟩) ∧ W.cell? ⟨Q, 1, none⟩ = some (.string ⟨#[47, 97]⟩) ∧ W.cell? ⟨Q, 2, none⟩ = some (.bool true)) ∧
      (W.cell? ⟨g, off, none⟩ = some (.string ⟨#[114, 101, 97, 100]⟩) ∧ W.cell? ⟨g, off + 1, none⟩ = some (.string ⟨#[47, 97]⟩) ∧ W.cell? ⟨g, off + 2, none⟩ = some (.bool true)) ∧
      (W.cell? ⟨g, off + 3, none⟩ = some (.string ⟨#[119, 114, 105, 116, 101]⟩) ∧ W.cell? ⟨g, off + 4, none⟩ = some (.string ⟨#[47, 99]⟩) ∧ W.cell? ⟨g, off + 5, none⟩ = some (.bool false)) ∧
      W.cell? ⟨Q + 1, 6, none⟩ = some (.string ⟨#[119, 114, 105, 116, 101]⟩) ∧ W.cell? ⟨Q + 1, 7, none⟩ = some (.string ⟨#[47, 99]⟩) ∧ W.cell? ⟨Q + 1, 8, none⟩ = some (.bool false))
    (first | exact HS.out _ KC.out | exact HS.out _ (Kept.refl _ _) | exact HS.out _ (Kept.refl _ _).drew)
    ((first | (go_at_call 21; with_reducible refine (HC1.out _).mono ?_; rintro e q1 ⟨rfl, j1⟩; have KC := Lib.hid (Kept.then (show Kept (fun _ => False) w4 _ from (by first | exact KC.out | exact Kept.refl _ _ | exact (Kept.refl _ _).drew)) j1); clear j1) | (go_at_call 21; with_reducible refine (HC2.out _).mono ?_; rintro e q1 ⟨rfl, j1⟩; have KD := Lib.hid (Kept.then (show Kept (fun _ => False) w4 _ from (by first | exact KC.out | exact Kept.refl _ _ | exact (Kept.refl _ _).drew)) j1); clear KC; have KC := KD; clear KD; clear j1) | (go_at_call 22; with_reducible refine (HTX.out _).mono ?_; rintro e q1 ⟨rfl, j1⟩; have KD := Lib.hid (Kept.then (show Kept (fun _ => False) w4 _ from (by first | exact KC.out | exact Kept.refl _ _ | exact (Kept.refl _ _).drew)) j1); clear KC; have KC := KD; clear KD; clear j1)))
  have HEnd := Lib.hid (K4.out.then KC.out)
  clear KC
  go_wp2_with fail
  go_ret
  exact ⟨rfl, HEnd.out⟩
end Go.Proofs.YtnnakllgfaaejaaGreatDoor
/-
  What the laws on lists of permissions stand on.
-/
namespace Go.Proofs.YtnnakllgfaaejaaGreatDoor
open Go.RowKit Go.Maps Go.WideMaps Go.ChangeMaps
set_option linter.unusedSimpArgs false
set_option linter.unusedVariables false
set_option maxRecDepth 100000

/-- The list that the raw permissions stand for. -/
def lpS (rs : List RawP) : List Per := (rs.take 8).map RawP.per
theorem lpS_len (rs : List RawP) : (lpS rs).length ≤ 8 := by unfold lpS; rw [List.length_map, List.length_take]; omega
theorem lpS_bd (rs : List RawP) : bdQ (lpS rs) := fun x hx => by
  unfold lpS at hx
  obtain ⟨r, _, rfl⟩ := List.mem_map.1 hx
  have := per_size r
  exact ⟨by omega, by omega⟩
theorem psame_at (v u : Value) (l bl r s : List Per) (w : World) (h : Pers w v l) (hu : Pers w u bl) (hb : bdQ l) (hbb : bdQ bl) (hl : l.length ≤ 50000) (hbl : bl.length ≤ 50000) (hr : NormS l r) (hs : NormS bl s) :
    Calls Tryz.prog 15 #[v, u] w fun e w' => e = .returned (.bool (decide (r = s))) ∧ Kept (fun _ => False) w w' :=
  (psame_any v u l bl w h hu hb hbb hl hbl).mono fun e w' ⟨r', s', h1, h2, h3, h4⟩ => by
    rw [h1.unique hr, h2.unique hs] at h3
    exact ⟨h3, h4⟩
theorem norm_ex (l : List Per) : ∃ r, NormS l r := ⟨_, nrmF_norm l⟩
theorem OwnQ.new0 (w : World) (T : TypeId) (B : Nat) (hB : B ≤ w.heap.size) : OwnQ T B (w.alloc (.cells #[] T)) (.slice (some ⟨w.heap.size, 0, none⟩) 0 0) [] := by
  refine ⟨rfl, Or.inr ⟨w.heap.size, 0, #[], rfl, hB, heap_alloc_new w _, Nat.le_refl _, by unfold maxLen; omega, rfl, rfl⟩⟩
/-- append(append([]T{}, x...), y...) -/
theorem cat2_run (W : World) (B : Nat) (hB : B ≤ W.heap.size) (x y : Value) (xs ys : List Per) (hx : Pers W x xs) (hy : Pers W y ys) (hl : xs.length ≤ 1000) (hm : ys.length ≤ 1000) :
    ∃ a1 c1 w1 a2 c2 w2, (Builtin.append_ #[27, 27] 27 #[.slice (some ⟨W.heap.size, 0, none⟩) 0 0, x]).run Tryz.prog (W.alloc (.cells #[] 35)) = .ok (.slice a1 xs.length c1) w1 ∧
      (Builtin.append_ #[27, 27] 27 #[.slice a1 xs.length c1, y]).run Tryz.prog w1 = .ok (.slice a2 (xs ++ ys).length c2) w2 ∧
      OwnQ 35 B w2 (.slice a2 (xs ++ ys).length c2) (xs ++ ys) ∧ Kept (fun _ => False) W w2 := by
  have hka : Kept (fun _ => False) W (W.alloc (.cells #[] 35)) := Kept.alloc _ _ _
  have h0 := OwnQ.new0 W 35 W.heap.size (Nat.le_refl _)
  obtain ⟨a1, c1, w1, r1, o1, k1⟩ := append_pers_run Tryz.underlying27 info_perQ h0 (hx.kept hka (fun _ _ h => h)) (by simp; omega) (by simp)
  rw [List.nil_append] at r1 o1
  have K1 : Kept (fun _ => False) W w1 := hka.trans k1 (fun _ _ h => h) (fun i hi e => by
    have : W.heap.size = i := by simpa [Value.ownBlock] using e
    omega)
  obtain ⟨a2, c2, w2, r2, o2, k2⟩ := append_pers_run Tryz.underlying27 info_perQ o1 (hy.kept K1 (fun _ _ h => h)) (by omega) K1.size
  exact ⟨a1, c1, w1, a2, c2, w2, r1, r2, o2.low hB, K1.trans k2 (fun _ _ h => h) (fun i hi e => by have := (o1.lt i e).1; omega)⟩
end Go.Proofs.YtnnakllgfaaejaaGreatDoor
/-
  The reference's Common.
-/
namespace Go.Proofs.YtnnakllgfaaejaaGreatDoor
open Go.RowKit Go.Maps Go.WideMaps Go.ChangeMaps
set_option linter.unusedSimpArgs false
set_option linter.unusedVariables false
set_option maxRecDepth 100000

/-- What the loops have put. -/
structure RfInv (w wr : World) (v : Value) (acc X : List Per) : Prop where
  row : OwnQ 36 w.heap.size wr v acc
  eq : acc = X
  kept : Kept (fun _ => False) w wr

set_option maxHeartbeats 6400000 in
theorem rcommon_any (w0 : World) (v u : Value) (l m : List Per) (h : Pers w0 v l) (hu : Pers w0 u m) (hb : bdQ l) (hm : bdQ m) (hl : l.length ≤ 8) (hml : m.length ≤ 8) :
    Calls Tryz.prog 20 #[v, u] w0 fun e w' => ∃ a c r, e = .returned (.slice a r.length c) ∧ NormS (prL l m) r ∧ OwnQ 36 w0.heap.size w' (.slice a r.length c) r ∧ Kept (fun _ => False) w0 w' := by
  have hbp : bdQ (prL l m) := fun x hx => ((mem_prL l m x).1 hx).elim (fun e => hm x e.1) (fun e => hb x e.1)
  have HNO := Lib.hid (fun W v (hv : Pers W v (prL l m)) => rnormal_any W v (prL l m) hv hbp (by have := prL_len l m hml; omega))
  obtain ⟨la, lc, rfl, v1, v2⟩ := h.form
  obtain ⟨ua, uc, rfl, u1, u2⟩ := hu.form
  have HV := Lib.hid h; have HU := Lib.hid hu; have HBM := Lib.hid hm; have HBL := Lib.hid hb
  obtain ⟨N, hN⟩ : ∃ N, N = l.length := ⟨_, rfl⟩
  rw [← hN] at HV v1 hl ⊢
  have HN := Lib.hid hN
  obtain ⟨M, hM⟩ : ∃ M, M = m.length := ⟨_, rfl⟩
  rw [← hM] at HU u1 hml ⊢
  have HM := Lib.hid hM
  unfold maxLen at v2 u2
  have HI0 : Hid (RfInv w0 w0 (.slice none 0 0) [] (prL (l.take 0) m)) := Lib.hid ⟨OwnQ.nil _ _ _, by simp [prL], Kept.refl _ _⟩
  have HLK : Hid (∀ k, (prL (l.take k) m).length ≤ 128) := Lib.hid fun k => by
    have h1 := prL_len (l.take k) m (by omega)
    rw [List.length_take] at h1
    omega
  have HRK : Hid (∀ p j, (prRow p (m.take j)).length ≤ 16) := Lib.hid fun p j => by
    have h1 := prRow_len p (m.take j)
    rw [List.length_take] at h1
    omega
  clear h hu hb hm hM hN hbp
  go_enter Tryz.func20, Tryz.ntmps20
  go_wp2_with fail
  go_loopw [5, 7, 9, 12] (fun ov _ _ iv wr => ∃ (k : Nat) (a : Option Addr) (c : Nat) (acc : List Per), k ≤ N ∧ iv = .int .i64 (k : Int) ∧ ov = .slice a acc.length c ∧ Hid (RfInv w0 wr (.slice a acc.length c) acc (prL (l.take k) m))) (fun _ _ _ iv _ => N - (intOf iv).toNat)
  case atStart => exact ⟨0, none, 0, [], Nat.zero_le _, rfl, rfl, HI0⟩
  case round =>
    obtain ⟨k, a, c, acc, hk, rfl, rfl, hI⟩ := hrel
    clear HI0
    by_cases hlt : k < N
    · have l1 : (k : Int) < (N : Int) := by omega
      have l0 : (0 : Int) ≤ (k : Int) := by omega
      have hkl : k < l.length := by have := HN.out; omega
      obtain ⟨g, off, rfl, hg, hc⟩ := (HV.out.kept hI.out.kept (fun _ _ h => h)).at (k := k) hkl
      have hpl := getD_mem l k hkl
      have hbx := HBL.out _ hpl
      have hnx := prL_next l m k hkl
      obtain ⟨p, hp⟩ : ∃ p, p = l.getD k per0 := ⟨_, rfl⟩
      rw [← hp] at hc hbx hnx
      obtain ⟨P, hP⟩ : ∃ P, P = p := ⟨_, rfl⟩
      have HIM := Lib.hid (fun y (hy : y ∈ m) W => rimp_any y p (HBM.out y hy).2 hbx.2 W)
      have HIN := Lib.hid (fun y (hy : y ∈ m) W => rimp_any p y hbx.2 (HBM.out y hy).2 W)
      rw [← hP] at hnx
      obtain ⟨pa, pp, pd⟩ := p
      unfold perV at HIM HIN
      obtain ⟨c0, c1, c2⟩ := hc
      simp only at c0 c1 c2
      have HST := Lib.hid hnx
      have HPP := Lib.hid hP
      have HBX := Lib.hid (Bx.new wr pa pp pd 36)
      have hka : Kept (fun _ => False) wr (wr.alloc (.cells #[.string pa, .string pp, .bool pd] 36)) := Kept.alloc _ _ _
      have HQL : Hid (∀ j, (Value.slice a acc.length c).ownBlock = some j → j < wr.heap.size) := Lib.hid fun j hj => (hI.out.row.lt j hj).2
      have HR1 : Hid (RfInv w0 (wr.alloc (.cells #[.string pa, .string pp, .bool pd] 36)) (.slice a acc.length c) acc (prL (l.take k) m ++ prRow P (m.take 0))) := Lib.hid ⟨hI.out.row.kept hka (fun _ _ h => h), by rw [hI.out.eq]; simp [prRow], hI.out.kept.then hka⟩
      clear hg hka hI hnx hp hP hbx hpl
      go_wp2_with fail
      clear c0 c1 c2
      generalize wr.alloc (.cells #[.string pa, .string pp, .bool pd] 36) = W1 at *
      generalize wr.heap.size = Q1 at *
      have HX0 : Hid (Bx W1 Q1 pa pp pd ∧ ∀ j, (Value.slice a acc.length c).ownBlock = some j → j ≠ Q1) := Lib.hid ⟨HBX.out, fun j hj e => by have := HQL.out j hj; omega⟩
      go_loopw [5, 9, 18] (fun ov _ jv W => ∃ (j : Nat) (a : Option Addr) (c : Nat) (acc : List Per), j ≤ M ∧ jv = .int .i64 (j : Int) ∧ ov = .slice a acc.length c ∧ Hid (RfInv w0 W (.slice a acc.length c) acc (prL (l.take k) m ++ prRow P (m.take j))) ∧ Hid (Bx W Q1 pa pp pd ∧ ∀ j, (Value.slice a acc.length c).ownBlock = some j → j ≠ Q1)) (fun _ _ jv _ => M - (intOf jv).toNat)
      case atStart => exact ⟨0, a, c, acc, Nat.zero_le _, rfl, rfl, HR1, HX0⟩
      case round =>
        obtain ⟨j, a, c, acc, hj, rfl, rfl, hI, hX⟩ := hrel
        clear HR1 HX0 HBX HQL
        have hal : acc.length ≤ 144 := by
          rw [hI.out.eq, List.length_append]
          have h1 := HLK.out k
          have h2 := HRK.out P j
          omega
        by_cases hjt : j < M
        · have m1 : (j : Int) < (M : Int) := by omega
          have m0 : (0 : Int) ≤ (j : Int) := by omega
          have hjl : j < m.length := by have := HM.out; omega
          obtain ⟨g', off', rfl, hg', hc'⟩ := (HU.out.kept hI.out.kept (fun _ _ h => h)).at (k := j) hjl
          have hen := prRow_next P m j hjl
          have HMI := Lib.hid (HIM.out _ (getD_mem m j hjl))
          have HMN := Lib.hid (HIN.out _ (getD_mem m j hjl))
          generalize m.getD j per0 = y at hc' hen HMI HMN
          obtain ⟨Y, hY⟩ : ∃ Y, Y = y := ⟨_, rfl⟩
          rw [← hY] at hen
          obtain ⟨ya, yp, yd⟩ := y
          obtain ⟨d0, d1, d2⟩ := hc'
          simp only at d0 d1 d2 HMI HMN
          rw [← HPP.out, ← hY] at HMI HMN
          have HYY := Lib.hid hY
          generalize impP Y P = V at HMI hen
          generalize impP P Y = U at HMN hen
          have HAE : Hid (acc ++ ((if U then [Y] else []) ++ (if V then [P] else [])) = prL (l.take k) m ++ prRow P (m.take (j + 1))) := Lib.hid (by rw [hen, hI.out.eq]; simp)
          have HBY := Lib.hid (Bx.new wr ya yp yd 36)
          have hka : Kept (fun _ => False) wr (wr.alloc (.cells #[.string ya, .string yp, .bool yd] 36)) := Kept.alloc _ _ _
          have HBX4 := Lib.hid (hX.out.1.stay hka)
          have HRJ := Lib.hid (hI.out.row.kept hka (fun _ _ h => h))
          have HKJ := Lib.hid (hI.out.kept.then hka)
          have HLT : Hid (∀ j, (Value.slice a acc.length c).ownBlock = some j → j ≠ Q1 ∧ w0.heap.size ≤ j ∧ j < wr.heap.size) := Lib.hid fun j hj => ⟨hX.out.2 j hj, hI.out.row.lt j hj⟩
          have hq1 : Q1 < wr.heap.size := World.block_lt_of_cell? wr _ hX.out.1.c0
          have hq2 : ¬ Q1 = wr.heap.size := by omega
          obtain ⟨b0, b1, b2⟩ := HBX4.out
          obtain ⟨e0, e1, e2⟩ := HBY.out
          clear hg' hka hen hI hX hY
          go_wp2_with fail
          refine (HMN.out _).mono ?_
          clear d0 d1 d2 b0 b1 b2 e0 e1 e2
          generalize wr.alloc (.cells #[.string ya, .string yp, .bool yd] 36) = W4 at *
          generalize wr.heap.size = Q4 at *
          rintro e w5 ⟨rfl, k5⟩
          have HB5 := Lib.hid (HBX4.out.stay k5)
          have HY5 := Lib.hid (HBY.out.stay k5)
          have HK5 := Lib.hid (HKJ.out.then k5)
          have HR5 := Lib.hid (HRJ.out.kept k5 (fun _ _ h => h))
          have HQ4 : Hid (Q4 < w5.heap.size) := Lib.hid (World.block_lt_of_cell? w5 _ HY5.out.c0)
          obtain ⟨b0, b1, b2⟩ := HB5.out
          obtain ⟨e0, e1, e2⟩ := HY5.out
          clear k5 HMN HBX4 HBY HKJ HRJ
          cases U with
          | false =>
            go_wp2_with fail
            refine (HMI.out _).mono ?_
            clear b0 b1 b2 e0 e1 e2
            rintro e w6 ⟨rfl, k6⟩
            have HB6 := Lib.hid (HB5.out.stay k6)
            have HK6 := Lib.hid (HK5.out.then k6)
            have HR6 := Lib.hid (HR5.out.kept k6 (fun _ _ h => h))
            obtain ⟨b0, b1, b2⟩ := HB6.out
            have HQ6 : Hid (Q1 < w6.heap.size) := Lib.hid (World.block_lt_of_cell? w6 _ HB6.out.c0)
            clear k6 HMI HB5 HK5 HR5 HY5
            cases V with
            | false =>
              have HI2 : Hid (RfInv w0 w6 (.slice a acc.length c) acc (prL (l.take k) m ++ prRow P (m.take (j + 1)))) := Lib.hid ⟨HR6.out, by have := HAE.out; simpa using this, HK6.out⟩
              have HX2 : Hid (Bx w6 Q1 pa pp pd ∧ ∀ j, (Value.slice a acc.length c).ownBlock = some j → j ≠ Q1) := Lib.hid ⟨HB6.out, fun j hj => (HLT.out j hj).1⟩
              go_wp2_with fail
              go_roundw
              case rel => exact ⟨j + 1, a, c, acc, by omega, by go_num, rfl, HI2, HX2⟩
              case measure => simp [intOf]; omega
            | true =>
              go_wp2_with (first
                | (at_builtin; refine wpList_pushB Tryz.underlying28 info_perR (by rfl) _ _ rfl rfl w0.heap.size _ acc w6.heap.size ⟨pa, pp, pd⟩ rfl rfl (HR6.out.alloc _) (Bx.new w6 pa pp pd 36) (by omega) (by have := HK6.out.size; simp; omega) ?_; intro a' c' w7 hown7 hk7 hat7; have HAT7 := Lib.hid hat7; have HOWN7 := Lib.hid hown7; have HKK7 := Lib.hid hk7; clear hown7 hk7 hat7)
                | fail)
              have hka : Kept (fun _ => False) w6 (w6.alloc (.cells #[.string pa, .string pp, .bool pd] 36)) := Kept.alloc _ _ _
              have HI2 : Hid (RfInv w0 w7 (.slice a' (acc ++ [Per.mk pa pp pd]).length c') (acc ++ [⟨pa, pp, pd⟩]) (prL (l.take k) m ++ prRow P (m.take (j + 1)))) :=
                Lib.hid ⟨by rw [List.length_append]; exact HOWN7.out, by have := HAE.out; rw [HPP.out] at this ⊢; simpa using this, (HK6.out.then hka).trans HKK7.out (fun _ _ h => h) (fun i hi e => by have := (HLT.out i e).2.1; omega)⟩
              have HX2 : Hid (Bx w7 Q1 pa pp pd ∧ ∀ j, (Value.slice a' (acc ++ [Per.mk pa pp pd]).length c').ownBlock = some j → j ≠ Q1) := Lib.hid ⟨(HB6.out.stay hka).kept HKK7.out (fun e => (HLT.out _ e).1 rfl), fun j hj e => by
                subst e
                rw [List.length_append] at hj
                rcases HAT7.out with h | h
                · exact (HLT.out _ (h.symm.trans hj)).1 rfl
                · have := h.symm.trans hj
                  simp at this
                  have := HK6.out.size; have := HQ6.out
                  omega⟩
              clear hka
              go_roundw
              case rel => exact ⟨j + 1, a', c', acc ++ [Per.mk pa pp pd], by omega, by go_num, by rw [List.length_append]; rfl, HI2, HX2⟩
              case measure => simp [intOf]; omega
          | true =>
            go_wp2_with (first
              | (at_builtin; refine wpList_pushB Tryz.underlying28 info_perR (by rfl) _ _ rfl rfl w0.heap.size _ acc w5.heap.size ⟨ya, yp, yd⟩ rfl rfl (HR5.out.alloc _) (Bx.new w5 ya yp yd 36) (by omega) (by have := HK5.out.size; simp; omega) ?_; intro a' c' w7 hown7 hk7 hat7; have HAT7 := Lib.hid hat7; have HOWN7 := Lib.hid hown7; have HKK7 := Lib.hid hk7; clear hown7 hk7 hat7
                 have HB7 := Lib.hid ((HB5.out.stay (Kept.alloc _ _ (.cells #[.string ya, .string yp, .bool yd] 36))).kept HKK7.out (fun e => (HLT.out _ e).1 rfl))
                 have HY7 := Lib.hid ((HY5.out.stay (Kept.alloc _ _ (.cells #[.string ya, .string yp, .bool yd] 36))).kept HKK7.out (fun e => by have := (HLT.out _ e).2.2; omega))
                 have HK7 : Hid (Kept (fun _ => False) w0 w7) := Lib.hid ((HK5.out.then (Kept.alloc _ _ (.cells #[.string ya, .string yp, .bool yd] 36))).trans HKK7.out (fun _ _ h => h) (fun i hi e => by have := (HLT.out i e).2.1; omega))
                 clear b0 b1 b2 e0 e1 e2
                 obtain ⟨b0, b1, b2⟩ := HB7.out
                 obtain ⟨e0, e1, e2⟩ := HY7.out)
              | (go_at_call 30; refine (HMI.out _).mono ?_
                 clear b0 b1 b2 e0 e1 e2
                 rintro e w6 ⟨rfl, k6⟩
                 have HB6 := Lib.hid (HB7.out.stay k6)
                 have HK6 := Lib.hid (HK7.out.then k6)
                 have HO6 : Hid (OwnQ 36 w0.heap.size w6 (.slice a' (acc.length + 1) c') (acc ++ [⟨ya, yp, yd⟩])) := Lib.hid (HOWN7.out.kept k6 (fun _ _ h => h))
                 obtain ⟨b0, b1, b2⟩ := HB6.out
                 have HQ6 : Hid (Q1 < w6.heap.size) := Lib.hid (World.block_lt_of_cell? w6 _ HB6.out.c0)
                 have HNE : Hid (∀ j, (Value.slice a' (acc.length + 1) c').ownBlock = some j → j ≠ Q1 ∧ w0.heap.size ≤ j) := Lib.hid fun j hj => ⟨fun e => by
                   subst e
                   rcases HAT7.out with h | h
                   · exact (HLT.out _ (h.symm.trans hj)).1 rfl
                   · have := h.symm.trans hj
                     simp at this
                     have := HQ4.out
                     omega, (HOWN7.out.lt j hj).1⟩
                 have HO8 : Hid (OwnQ 36 w0.heap.size (w6.alloc (.cells #[.string pa, .string pp, .bool pd] 36)) (.slice a' (acc.length + 1) c') (acc ++ [⟨ya, yp, yd⟩])) := Lib.hid (HO6.out.alloc _)
                 clear k6 HMI
                 cases V)
              | (at_builtin; refine wpList_pushB Tryz.underlying28 info_perR (by rfl) _ _ rfl rfl w0.heap.size _ (acc ++ [Per.mk ya yp yd]) w6.heap.size ⟨pa, pp, pd⟩ rfl rfl HO8.out (Bx.new w6 pa pp pd 36) (by simp; omega) (by have := HK6.out.size; simp; omega) ?_; intro a8 c8 w8 hown8 hk8 hat8; have HAT8 := Lib.hid hat8; have HOWN8 := Lib.hid hown8; have HKK8 := Lib.hid hk8; clear hown8 hk8 hat8)
              | fail)
            · have HI2 : Hid (RfInv w0 w6 (.slice a' (acc ++ [Per.mk ya yp yd]).length c') (acc ++ [⟨ya, yp, yd⟩]) (prL (l.take k) m ++ prRow P (m.take (j + 1)))) := Lib.hid ⟨by rw [List.length_append]; exact HO6.out, by have := HAE.out; rw [HYY.out] at this; simpa using this, HK6.out⟩
              have HX2 : Hid (Bx w6 Q1 pa pp pd ∧ ∀ j, (Value.slice a' (acc ++ [Per.mk ya yp yd]).length c').ownBlock = some j → j ≠ Q1) := Lib.hid ⟨HB6.out, fun j hj => (HNE.out j (by rw [List.length_append] at hj; exact hj)).1⟩
              go_roundw
              case rel => exact ⟨j + 1, a', c', acc ++ [Per.mk ya yp yd], by omega, by go_num, by rw [List.length_append]; rfl, HI2, HX2⟩
              case measure => simp [intOf]; omega
            · have hka : Kept (fun _ => False) w6 (w6.alloc (.cells #[.string pa, .string pp, .bool pd] 36)) := Kept.alloc _ _ _
              have HI2 : Hid (RfInv w0 w8 (.slice a8 (acc ++ [Per.mk ya yp yd] ++ [Per.mk pa pp pd]).length c8) (acc ++ [Per.mk ya yp yd] ++ [⟨pa, pp, pd⟩]) (prL (l.take k) m ++ prRow P (m.take (j + 1)))) :=
                Lib.hid ⟨by rw [List.length_append]; exact HOWN8.out, by have := HAE.out; rw [HYY.out, HPP.out] at this; rw [HPP.out]; simpa using this, (HK6.out.then hka).trans HKK8.out (fun _ _ h => h) (fun i hi e => by have := (HNE.out i e).2; omega)⟩
              have HX2 : Hid (Bx w8 Q1 pa pp pd ∧ ∀ j, (Value.slice a8 (acc ++ [Per.mk ya yp yd] ++ [Per.mk pa pp pd]).length c8).ownBlock = some j → j ≠ Q1) := Lib.hid ⟨(HB6.out.stay hka).kept HKK8.out (fun e => (HNE.out _ e).1 rfl), fun j hj e => by
                subst e
                rw [List.length_append] at hj
                rcases HAT8.out with h | h
                · exact (HNE.out _ (h.symm.trans hj)).1 rfl
                · have := h.symm.trans hj
                  simp at this
                  have := HQ6.out
                  omega⟩
              clear hka
              go_roundw
              case rel => exact ⟨j + 1, a8, c8, acc ++ [Per.mk ya yp yd] ++ [Per.mk pa pp pd], by omega, by go_num, by rw [List.length_append, List.length_append]; rfl, HI2, HX2⟩
              case measure => simp [intOf]; omega
        · obtain rfl : j = M := by omega
          have he := hI.out.eq
          rw [HM.out, List.take_length, ← HST.out] at he
          have HI2 : Hid (RfInv w0 wr (.slice a acc.length c) acc (prL (l.take (k + 1)) m)) := Lib.hid ⟨hI.out.row, he, hI.out.kept⟩
          clear he hI hX
          go_wp2_with fail
          go_roundw
          case rel => exact ⟨k + 1, a, c, acc, by omega, by go_num, rfl, HI2⟩
          case measure => simp [intOf]; omega
    · obtain rfl : k = N := by omega
      have he := hI.out.eq
      rw [HN.out, List.take_length] at he
      subst he
      have HC := Lib.hid (HNO.out wr _ hI.out.row.pers)
      have HKW := Lib.hid hI.out.kept
      clear hI
      go_wp2_with fail
      refine HC.out.mono ?_
      rintro e w6 ⟨a6, c6, r, rfl, g1, g2, g3, g4⟩
      have G1 := Lib.hid g1; have G3 := Lib.hid (g3.low HKW.out.size); have G4 := Lib.hid (HKW.out.then g4)
      clear g1 g2 g3 g4 HC
      go_wp2_with fail
      go_ret
      exact ⟨a6, c6, r, rfl, G1.out, G3.out, G4.out⟩
end Go.Proofs.YtnnakllgfaaejaaGreatDoor
/-
  Raw permissions as they come in.
-/
namespace Go.Proofs.YtnnakllgfaaejaaGreatDoor
open Go.Joins Go.ChangeShapes Go.WideShapes Go.ChangeAt Go.RowKit Go.Deep
set_option linter.unusedSimpArgs false
set_option linter.unusedVariables false
set_option linter.constructorNameAsVariable false

theorem u8_natQ (a : Int) (h : (Lit.int .u8 a).wf = true) : ∃ n : Nat, a = (n : Int) ∧ n < 256 := by
  simp [Lit.wf, IntKind.min, IntKind.max, IntKind.signed, IntKind.bits] at h
  exact ⟨a.toNat, by omega, by omega⟩
set_option maxRecDepth 100000 in
theorem raw11_in {H : Type} {enc : TypeId × Value → H} {W : World} {base : Nat} {v : Value} {d : DataW H} {p : List MemPlace} (o : Value.okWide Tryz.prog W .any base 25 v) (h : DataW.Trod enc Tryz.prog W 0 (fun _ => true) true 25 v d p) :
    ∃ r : RawP, RawIn W v r W.heap.size := by
  obtain ⟨v0, v1, v2, y0, y1, y2, n, rfl, _, _, t0, t1, t2⟩ := open_agg3 Tryz.underlying25 (by kernel_rfl) (by kernel_rfl) o h
  obtain ⟨i0, e0, _, w0⟩ := DataW.trod_int Tryz.underlying5 t0
  obtain ⟨b, e2, _⟩ := DataW.trod_bool Tryz.underlying4 t2
  injection e0 with e0; injection e2 with e2
  subst e0 e2
  obtain ⟨n0, rfl, h0⟩ := u8_natQ _ w0
  obtain ⟨xs, hl, hx⟩ := loose_of t1
  exact ⟨⟨n0, xs, b⟩, v1, rfl, hl, h0, hx, hl.le⟩
end Go.Proofs.YtnnakllgfaaejaaGreatDoor
/-
  A list of raw permissions as it comes in.
-/
namespace Go.Proofs.YtnnakllgfaaejaaGreatDoor
open Go.Joins Go.ChangeShapes Go.WideShapes Go.ChangeAt Go.RowKit Go.Deep
set_option linter.unusedSimpArgs false
set_option linter.unusedVariables false
set_option linter.constructorNameAsVariable false

theorem cellsRawP : Tryz.prog.cellsOf 25 = 3 := by kernel_rfl
theorem cellsU8P : Tryz.prog.cellsOf 5 = 1 := by kernel_rfl
theorem cellsSlP : Tryz.prog.cellsOf 23 = 1 := by kernel_rfl
theorem cellsBoP : Tryz.prog.cellsOf 4 = 1 := by kernel_rfl
theorem add_plainP (g off n : Nat) : (⟨g, off, none⟩ : Addr).add n = ⟨g, off + n, none⟩ := by unfold Addr.add; split <;> simp_all

set_option maxRecDepth 100000 in
theorem rawsP_of {H : Type} {enc : TypeId × Value → H} {W : World} {a : Option Addr} {len cap : Nat} {y : DataW H × List MemPlace} {fuel : Nat} (h : DataW.trod enc Tryz.prog W 0 (fun _ => true) true fuel 22 [.slice a len cap] = some y) :
    ∃ rs, RawsIn W (.slice a len cap) rs W.heap.size := by
  rcases open_slice Tryz.underlying22 h with ⟨hcs, _⟩ | ⟨x, l, c, m, n, D, Pl, hcs, _, hl, hm, hmm, _, hi⟩
  · injection hcs with hcs
    injection hcs with e1 e2 e3
    subst e1 e2 e3
    exact ⟨[], _, _, rfl, Nat.le_refl _, by unfold maxLen; omega, fun k r hr => by simp at hr⟩
  · injection hcs with hcs
    injection hcs with e1 e2 e3
    subst e1 e2 e3
    simp only [if_true] at hmm
    subst hmm
    have hel : ∀ i, i < len → ∃ x0 x1 x2 fu y0 y1 y2, W.cell? ((x.add (i * 3)).add 0) = some x0 ∧ W.cell? ((x.add (i * 3)).add 1) = some x1 ∧ W.cell? ((x.add (i * 3)).add 2) = some x2 ∧
        DataW.trod enc Tryz.prog W 0 (fun _ => true) true fu 5 [x0] = some y0 ∧ DataW.trod enc Tryz.prog W 0 (fun _ => true) true fu 23 [x1] = some y1 ∧ DataW.trod enc Tryz.prog W 0 (fun _ => true) true fu 4 [x2] = some y2 := by
      intro i hil
      obtain ⟨cs', hc, ht⟩ := hi i (by omega)
      rw [cellsRawP] at hc
      obtain ⟨_, hcl, hat⟩ := World.cells?_some hc
      obtain ⟨y0, y1, y2, fu, _, hlen, t0, t1, t2⟩ := trod_struct3 Tryz.underlying25 ht
      rw [cellsRawP] at hlen
      match cs', hlen with
      | [x0, x1, x2], _ =>
        refine ⟨x0, x1, x2, fu, y0, y1, y2, hat 0 (by omega), hat 1 (by omega), hat 2 (by omega), ?_, ?_, ?_⟩
        · simpa [cellsU8P, cellsSlP, cellsBoP] using t0
        · simpa [cellsU8P, cellsSlP, cellsBoP] using t1
        · simpa [cellsU8P, cellsSlP, cellsBoP] using t2
    by_cases h0 : len = 0
    · subst h0
      exact ⟨[], _, _, rfl, by simp, by omega, fun k r hr => by simp at hr⟩
    · obtain ⟨x0, _, _, _, _, _, _, hx0, _⟩ := hel 0 (by omega)
      rw [show (x.add (0 * 3)).add 0 = x from rfl] at hx0
      have hlt := World.block_lt_of_cell? W _ hx0
      have hs := World.cell?_spot hx0
      obtain ⟨g, off, spot⟩ := x
      simp only at hs
      subst hs
      have hr : ∀ i, ∃ r : RawP × Value, i < len → W.cell? ⟨g, off + i * 3, none⟩ = some (.int .u8 (r.1.n : Nat)) ∧ W.cell? ⟨g, off + i * 3 + 1, none⟩ = some r.2 ∧ W.cell? ⟨g, off + i * 3 + 2, none⟩ = some (.bool r.1.d) ∧ RawIn W (.agg #[.int .u8 r.1.n, r.2, .bool r.1.d]) r.1 W.heap.size := fun i => by
        by_cases hil : i < len
        · obtain ⟨x0, x1, x2, fu, y0, y1, y2, c0, c1, c2, t0, t1, t2⟩ := hel i hil
          rw [add_plainP, add_plainP] at c0 c1 c2
          obtain ⟨i0, e0, _, w0⟩ := DataW.trod_int Tryz.underlying5 t0
          obtain ⟨b, e2, _⟩ := DataW.trod_bool Tryz.underlying4 t2
          injection e0 with e0; injection e2 with e2
          subst e0 e2
          obtain ⟨n0, rfl, h0⟩ := u8_natQ _ w0
          obtain ⟨xs, hl1, hx⟩ := loose_of t1
          exact ⟨⟨⟨n0, xs, b⟩, x1⟩, fun _ => ⟨c0, c1, c2, x1, rfl, hl1, h0, hx, hl1.le⟩⟩
        · exact ⟨⟨⟨0, [], false⟩, undef⟩, fun h => absurd h hil⟩
      obtain ⟨f, hf⟩ := Classical.skolem.1 hr
      refine ⟨(List.range len).map fun i => (f i).1, some ⟨g, off, none⟩, m, by simp, by simpa using hl, by omega, fun k r hr => ?_⟩
      have hk : k < len := by
        have := (List.getElem?_eq_some_iff.1 hr).1
        simpa using this
      have e : r = (f k).1 := by
        simp [hk] at hr
        exact hr.symm
      subst e
      obtain ⟨c0, c1, c2, hin⟩ := hf k hk
      exact ⟨g, off, (f k).2, rfl, hlt, c0, c1, c2, hin⟩

set_option maxRecDepth 100000 in
theorem raws11_in {H : Type} {enc : TypeId × Value → H} {W : World} {base : Nat} {v : Value} {d : DataW H} {p : List MemPlace} (o : Value.okWide Tryz.prog W .any base 22 v) (h : DataW.Trod enc Tryz.prog W 0 (fun _ => true) true 22 v d p) :
    ∃ rs, RawsIn W v rs W.heap.size := by
  obtain ⟨a, len, cap, rfl⟩ := okWide_slice Tryz.underlying22 o
  obtain ⟨fuel, h⟩ := h
  simp [Value.cells] at h
  exact rawsP_of h
end Go.Proofs.YtnnakllgfaaejaaGreatDoor
