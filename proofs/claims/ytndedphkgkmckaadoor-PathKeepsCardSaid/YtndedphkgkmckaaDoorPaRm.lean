/-
  The reference's Remove of lists of paths.
-/
import Derived.Test.YtndedphkgkmckaaDoorPaRf
namespace Go.Proofs.YtndedphkgkmckaaDoor
open Go.RowKit
set_option linter.unusedSimpArgs false
set_option linter.unusedVariables false

/-- The error of a removal. -/
def remE (l : List ByteArray) (p : ByteArray) : Int := if (namesS p).isSome = false then 6 else if p.toList = [47] then 1 else if memS p l = false then 4 else if 1 < (belowS l p).length then 7 else 0
/-- The list without a path. -/
def remS (l : List ByteArray) (p : ByteArray) : List ByteArray := l.filter fun q => (q.toList != p.toList)

set_option maxRecDepth 100000 in
set_option maxHeartbeats 3200000 in
theorem rremove_any (v : Value) (xs : List ByteArray) (p : ByteArray) (w : World) (h : Strs w v xs) (hp : p.size ≤ 100000) (hl : xs.length ≤ 50000) (hz : ∀ x ∈ xs, x.size ≤ 100000) :
    Calls Tryd.prog 37 #[v, .string p] w fun e w' => ∃ v', e = .returned (.tuple #[v', .int .i64 (remE xs p)]) ∧ (remE xs p = 0 → Strs w' v' (remS xs p)) ∧ Kept (fun _ => False) w w' := by
  have hv := qvalid_any p hp w
  obtain ⟨a, c, rfl, hnc, hcm⟩ := h.form
  have HS := Lib.hid h
  have HH := Lib.hid (fun W (hk : Kept (fun _ => False) w W) => rhas_any _ xs p W (h.kept hk (fun _ _ h => h)))
  have HB := Lib.hid (fun W (hk : Kept (fun _ => False) w W) => rbelow_any _ xs p W (h.kept hk (fun _ _ h => h)) (by omega) hz)
  obtain ⟨n, hn⟩ : ∃ n, n = xs.length := ⟨_, rfl⟩
  have hnb : n ≤ 50000 := by omega
  rw [← hn] at HS HH HB ⊢
  have HN := Lib.hid hn
  clear hn h hnc hcm hl hz
  cases hn : (namesS p).isSome with
  | false =>
    have hE : remE xs p = 6 := if_pos hn
    rw [hn] at hv
    rw [hE]
    have HV := Lib.hid hv
    clear hv hn hE
    go_enter Tryd.func37, Tryd.ntmps37
    go_wp2_with fail
    refine HV.out.mono ?_
    rintro e w1 ⟨rfl, k1⟩
    have K1 := Lib.hid k1; clear k1
    go_wp2_with fail
    go_ret2
    exact ⟨_, rfl, fun h => absurd h (by decide), K1.out⟩
  | true =>
    rw [hn] at hv
    have hE0 : remE xs p = if p.toList = [47] then 1 else if memS p xs = false then 4 else if 1 < (belowS xs p).length then 7 else 0 := if_neg (by rw [hn]; decide)
    rw [hE0]
    clear hE0 hn
    have HV := Lib.hid hv
    clear hv
    by_cases hr : p.toList = [47]
    · rw [if_pos hr]
      have hb : (p.toList == [47]) = true := by rw [hr]; rfl
      go_enter Tryd.func37, Tryd.ntmps37
      go_wp2_with fail
      refine HV.out.mono ?_
      rintro e w1 ⟨rfl, k1⟩
      have K1 := Lib.hid k1; clear k1
      go_wp2_with fail
      go_ret2
      exact ⟨_, rfl, fun h => absurd h (by decide), K1.out⟩
    · rw [if_neg hr]
      have hb : (p.toList == [47]) = false := beq_eq_false_iff_ne.2 hr
      cases hm : memS p xs with
      | false =>
        rw [if_pos rfl]
        rw [hm] at HH
        clear hm
        go_enter Tryd.func37, Tryd.ntmps37
        go_wp2_with fail
        refine HV.out.mono ?_
        rintro e w1 ⟨rfl, k1⟩
        have K1 := Lib.hid k1; clear k1
        go_wp2_with fail
        refine (HH.out _ K1.out).mono ?_
        rintro e w2 ⟨rfl, rfl⟩
        go_wp2_with fail
        go_ret2
        exact ⟨_, rfl, fun h => absurd h (by decide), K1.out⟩
      | true =>
        rw [if_neg (by decide)]
        rw [hm] at HH
        clear hm
        obtain ⟨m, hmm⟩ : ∃ m, m = (belowS xs p).length := ⟨_, rfl⟩
        rw [← hmm]
        have HM := Lib.hid hmm
        clear hmm
        by_cases h1 : 1 < m
        · rw [if_pos h1]
          have h1i : (1 : Int) < (m : Int) := by omega
          go_enter Tryd.func37, Tryd.ntmps37
          go_wp2_with fail
          refine HV.out.mono ?_
          rintro e w1 ⟨rfl, k1⟩
          have K1 := Lib.hid k1; clear k1
          go_wp2_with fail
          refine (HH.out _ K1.out).mono ?_
          rintro e w2 ⟨rfl, rfl⟩
          go_wp2_with fail
          refine (HB.out _ K1.out).mono ?_
          rintro e w3 ⟨v3, rfl, ho3, k3⟩
          obtain ⟨a3, c3, hv3, _, _⟩ := (Strs.ofOwn ho3).form
          rw [← HM.out] at hv3
          subst hv3
          have K3 := Lib.hid (K1.out.then k3); clear k3 ho3
          go_wp2_with fail
          go_ret2
          exact ⟨_, rfl, fun h => absurd h (by decide), K3.out⟩
        · rw [if_neg h1]
          have h1i : ¬ (1 : Int) < (m : Int) := by omega
          go_enter Tryd.func37, Tryd.ntmps37
          go_wp2_with fail
          refine HV.out.mono ?_
          rintro e w1 ⟨rfl, k1⟩
          have K1 := Lib.hid k1; clear k1
          go_wp2_with fail
          refine (HH.out _ K1.out).mono ?_
          rintro e w2 ⟨rfl, rfl⟩
          go_wp2_with fail
          refine (HB.out _ K1.out).mono ?_
          rintro e w3 ⟨v3, rfl, ho3, k3⟩
          obtain ⟨a3, c3, hv3, _, _⟩ := (Strs.ofOwn ho3).form
          rw [← HM.out] at hv3
          subst hv3
          have K3 := Lib.hid (K1.out.then k3); clear k3 ho3
          have HS3 := Lib.hid (HS.out.kept K3.out (fun _ _ h => h))
          have HR : Hid (remS xs p = xs.filter fun q => (q.toList != p.toList)) := Lib.hid rfl
          obtain ⟨f, hf⟩ : ∃ f : ByteArray → Bool, f = fun q => (q.toList != p.toList) := ⟨_, rfl⟩
          rw [← hf] at HR
          have HF := Lib.hid hf
          clear hf
          go_wp2_with fail
          go_loopw [6, 29] (fun ov iv wr => ∃ (k m : Nat) (aa : Option Addr) (cc : Nat), k ≤ n ∧ m ≤ k ∧ iv = .int .i64 k ∧ ov = .slice aa m cc ∧ Hid (((xs.take k).filter f).length = m) ∧ Hid (OwnS wr w3.heap.size (.slice aa m cc) ((xs.take k).filter f)) ∧ Hid (Kept (fun _ => False) w3 wr)) (fun _ iv _ => n - (intOf iv).toNat)
          case atStart => exact ⟨0, 0, none, 0, by omega, by omega, rfl, rfl, rfl, OwnS.nil _ _, Kept.refl _ _⟩
          case round =>
            obtain ⟨k, m2, aa, cc, hk, hmk, rfl, rfl, hml, ho, hkw⟩ := hrel
            by_cases hlt : k < n
            · have l1 : (k : Int) < (n : Int) := by omega
              have l0 : (0 : Int) ≤ (k : Int) := by omega
              obtain ⟨g, off, rfl, _, hcell⟩ := (HS3.out.kept hkw.out (fun _ _ h => h)).at (k := k) (by have := HN.out; omega)
              cases hf : f (xs.getD k ⟨#[]⟩) with
              | false =>
                have HNX := Lib.hid (filter_take_no (f := f) (by have := HN.out; omega) hf)
                have hb2 : ((xs.getD k ⟨#[]⟩).toList != p.toList) = false := by have h := hf; rw [HF.out] at h; exact h
                have hb3 : ((xs.getD k ⟨#[]⟩).toList == p.toList) = true := by simpa [bne] using hb2
                clear hf
                generalize xs.getD k ⟨#[]⟩ = x at hcell hb2 hb3
                have HO2 : Hid (OwnS wr w3.heap.size (.slice aa m2 cc) ((xs.take (k + 1)).filter f)) := by rw [HNX.out]; exact ho.out
                have HL2 : Hid (((xs.take (k + 1)).filter f).length = m2) := by rw [HNX.out]; exact hml.out
                go_wp2_with fail
                go_roundw
                case rel => first | exact ⟨k + 1, m2, aa, cc, by omega, by omega, by go_num, rfl, HL2, HO2, hkw⟩ | ((repeat apply Exists.intro); exact ⟨⟨k + 1, m2, aa, cc, by omega, by omega, by go_num, rfl, HL2, HO2, hkw⟩, rfl⟩)
                case measure => simp [intOf]; omega
              | true =>
                have HNX := Lib.hid (filter_take_yes (f := f) (by have := HN.out; omega) hf)
                have hb2 : ((xs.getD k ⟨#[]⟩).toList != p.toList) = true := by have h := hf; rw [HF.out] at h; exact h
                have hb3 : ((xs.getD k ⟨#[]⟩).toList == p.toList) = false := by simpa [bne] using hb2
                clear hf
                generalize xs.getD k ⟨#[]⟩ = x at hcell HNX hb2 hb3
                generalize hacc : (xs.take k).filter f = acc at ho hml HNX
                clear hacc
                go_wp2_with (at_builtin; refine wpList_pushS (by rfl) _ _ rfl rfl w3.heap.size _ acc wr.heap.size x rfl rfl (ho.out.alloc _) (by go_simp) (by have := hml.out; omega) (by have := hkw.out.size; simp; omega) ?_)
                intro a' c' w4 hown hk4
                have hll := hml.out
                have HO4 : Hid (OwnS w4 w3.heap.size (.slice a' (m2 + 1) c') ((xs.take (k + 1)).filter f)) := by
                  have h2 := hown
                  rw [hll, ← HNX.out] at h2
                  exact h2
                have HL4 : Hid (((xs.take (k + 1)).filter f).length = m2 + 1) := by rw [HNX.out, List.length_append, hll]; rfl
                have HK4 : Hid (Kept (fun _ => False) w3 w4) := (hkw.out.then (Kept.alloc _ _ _)).trans hk4 (fun _ _ h => h) (fun i hi e => by have := (ho.out.bound i e).1; omega)
                clear hown hk4
                go_wp2_with fail
                go_roundw
                case rel => first | exact ⟨k + 1, m2 + 1, a', c', by omega, by omega, by go_num, by rw [hll], HL4, HO4, HK4⟩ | ((repeat apply Exists.intro); exact ⟨⟨k + 1, m2 + 1, a', c', by omega, by omega, by go_num, by rw [hll], HL4, HO4, HK4⟩, rfl⟩)
                case measure => simp [intOf]; omega
            · obtain rfl : k = n := by omega
              have HFIN : Hid (OwnS wr w3.heap.size (.slice aa m2 cc) (remS xs p)) := by
                have h2 := ho.out
                rw [HN.out, List.take_length, ← HR.out] at h2
                exact h2
              have KF := Lib.hid (K3.out.then hkw.out)
              go_wp2_with fail
              go_ret2
              exact ⟨_, rfl, fun _ => Strs.ofOwn HFIN.out, KF.out⟩
end Go.Proofs.YtndedphkgkmckaaDoor
