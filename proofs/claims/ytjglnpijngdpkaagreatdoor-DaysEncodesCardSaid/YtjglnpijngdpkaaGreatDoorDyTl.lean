import Derived.Test.YtjglnpijngdpkaaGreatDoorDyPa
import Derived.Test.YtjglnpijngdpkaaGreatDoorDyRt
import Derived.Test.YtjglnpijngdpkaaGreatDoorDyAw
import Derived.Test.YtjglnpijngdpkaaGreatDoorDyIs
import Derived.Test.YtjglnpijngdpkaaGreatDoorDyMk
/-
  arbaclaw05.DaysTexts returns true.
-/
namespace Go.Proofs.YtjglnpijngdpkaaGreatDoor
open Go.RowKit Go.Shelf
set_option linter.unusedSimpArgs false
set_option linter.unusedVariables false
set_option maxRecDepth 100000

theorem spans_few {t : List Int} (h : CanD t) : (spansD t).length ≤ 15001 := by
  have h1 := h.len
  rw [spansD_len]
  omega
theorem textD_size {t : List Int} (h : CanD t) : (textD t).length ≤ 200000 ∧ (splitC 44 (textD t)).length ≤ 15001 := by
  by_cases h1 : t = []
  · subst h1; exact ⟨by decide, by decide⟩
  · by_cases h2 : t = [0, 30001]
    · subst h2; exact ⟨by decide, by decide⟩
    · have h3 := textD_head h h1 h2
      have h4 := spans_few h
      have h5 := txD_len (spansD t) (spansD_ok h)
      rw [h3]
      refine ⟨by omega, ?_⟩
      rw [split_txD _ (fun e => h1 (spansD_nil h e)) (spansD_ok h), List.length_map]
      exact h4
theorem libD_tabD {w : World} (h : LibD w) : TabD w := h.tab

set_option maxHeartbeats 6400000 in
theorem textsL_any (w0 : World) (v : Value) (l : List (Nat × Nat)) (h : RowG EU w0 v l) (hl : ∀ p ∈ l, p.1 < 65536 ∧ p.2 < 65536) (hT : LibD w0) :
    Calls Tryz.prog 3 #[v] w0 fun e w' => e = .returned (.bool true) ∧ Kept (fun _ => False) w0 w' := by
  obtain ⟨la, lc, rfl, _, _⟩ := h.form
  have HV := Lib.hid h; have HB := Lib.hid hl; have HT := Lib.hid hT
  obtain ⟨N, hN⟩ : ∃ N, N = l.length := ⟨_, rfl⟩
  rw [← hN] at HV ⊢
  clear h hl hT hN
  go_enter Tryz.func3, Tryz.ntmps3
  go_wp2_with fail
  refine (awD_any w0 (libD_tabD HT.out)).mono ?_
  rintro e w1 ⟨rfl, k1⟩
  have HK1 := Lib.hid k1
  clear k1
  go_wp2_with fail
  refine (makeD_any w1 _ l (HV.out.on HK1.out) HB.out).mono ?_
  rintro e w2 ⟨sv, fv, t, f, rfl, hs, hf, hfl, hin, hfv, k2⟩
  obtain ⟨row, rfl, hrow, hcan⟩ := hs
  obtain ⟨ra, rc, rfl, _, _⟩ := hrow.form
  obtain ⟨fa, fc, rfl, _, _⟩ := hf.form
  have HK2 := Lib.hid (HK1.out.then k2)
  have HS : Hid (SetD w2 (.agg #[.slice ra t.length rc]) t) := Lib.hid ⟨_, rfl, hrow, hcan⟩
  have HF := Lib.hid hf; have HFL := Lib.hid hfl
  have HAG : Hid (∀ x : Nat, x ≤ 30000 → f.getD x false = inD t (x : Int)) := Lib.hid fun x hx => by rw [hfv x hx, hin]
  have HCN := Lib.hid hcan
  have HA := Lib.hid (Kept.alloc (fun _ => False) w2 (.cells #[.slice ra t.length rc] 26))
  have HC : Hid (∀ W, Kept (fun _ => False) (w2.alloc (.cells #[.slice ra t.length rc] 26)) W → W.cell? ⟨w2.heap.size, 0, none⟩ = some (.slice ra t.length rc)) := Lib.hid fun W k => (k.cell (p := ⟨w2.heap.size, 0, none⟩) (by simp) (fun h => h)).trans (new1P _ _ _)
  obtain ⟨TT, hTT⟩ : ∃ TT, TT = strD (textD t) := ⟨_, rfl⟩
  have HTX : Hid (∀ W, Kept (fun _ => False) w0 W → SetD W (.agg #[.slice ra t.length rc]) t → Calls Tryz.prog 8 #[.agg #[.slice ra t.length rc]] W fun e w' => e = .returned (.string TT) ∧ Kept (fun _ => False) W w') := Lib.hid fun W hk hs => by
    rw [hTT]
    exact textP_any W _ t hs ((HT.out.kept hk).tab)
  have HRT : Hid (∀ W, RowG EB W (.slice fa f.length fc) f → Calls Tryz.prog 9 #[.slice fa f.length fc] W fun e w' => e = .returned (.string TT) ∧ Kept (fun _ => False) W w') := Lib.hid fun W hf => by
    rw [hTT]
    exact rtextD_any W _ f t hf HFL.out HCN.out HAG.out (Nat.le_trans (spans_few HCN.out) (by decide))
  have HPA : Hid (∀ W, Kept (fun _ => False) w0 W → Calls Tryz.prog 10 #[.string TT] W fun e w' => ∃ (a : Option Addr) (c : Nat), e = .returned (.tuple #[.agg #[.slice a t.length c], .int .i64 0]) ∧ SetD w' (.agg #[.slice a t.length c]) t ∧ Kept (fun _ => False) W w') := Lib.hid fun W hk => by
    have hz := textD_size HCN.out
    refine (pparseD_any W TT (by rw [hTT, strD_size]; omega) (by rw [hTT]; exact hz.2) (HT.out.kept hk)).mono ?_
    rintro e w' ⟨v, E, he, hk2, hc⟩
    have hl : TT.data.toList = textD t := by rw [hTT]; rfl
    rw [hl] at hc
    rcases hc with ⟨rfl, t', hs', ht'⟩ | ⟨_, _, hno⟩
    · obtain rfl := textD_inj hs'.can HCN.out ht'
      obtain ⟨row, rfl, h4, h5⟩ := hs'
      obtain ⟨a, c, rfl, _, _⟩ := h4.form
      exact ⟨a, c, he, ⟨_, rfl, h4, h5⟩, hk2⟩
    · exact absurd rfl (hno t HCN.out)
  have HEQ : Hid (∀ W v u, SetD W v t → SetD W u t → Calls Tryz.prog 11 #[v, u] W fun e w' => e = .returned (.bool true) ∧ Kept (fun _ => False) W w') := Lib.hid fun W v u h1 h2 => by
    have := dayEqual_any v u t t W h1 h2
    rwa [decide_eq_true rfl] at this
  have HIS : Hid (∀ W v, SetD W v t → RowG EB W (.slice fa f.length fc) f → Calls Tryz.prog 12 #[v, .slice fa f.length fc] W fun e w' => e = .returned (.bool true) ∧ Kept (fun _ => False) W w') := Lib.hid fun W v h1 h2 => isD_any W v _ t f h1 h2 HFL.out HAG.out
  obtain ⟨n, hn⟩ : ∃ n, n = t.length := ⟨_, rfl⟩
  obtain ⟨m, hm⟩ : ∃ m, m = f.length := ⟨_, rfl⟩
  rw [← hn] at HS HA HC HTX HPA ⊢
  rw [← hm] at HF HRT HIS ⊢
  clear hrow hcan hf hfl hin hfv k2 hn hm HV HB hTT HT HAG HCN
  go_wp2_with fail
  refine (HTX.out _ (HK2.out.then HA.out) (HS.out.on HA.out)).mono ?_
  rintro e w3 ⟨rfl, k3⟩
  have K3 := Lib.hid (HA.out.then k3)
  have HF3 := Lib.hid ((HF.out.on HA.out).on k3)
  have c3 := HC.out _ k3
  have HC3 : Hid (∀ W, Kept (fun _ => False) w3 W → W.cell? ⟨w2.heap.size, 0, none⟩ = some (.slice ra n rc)) := Lib.hid fun W k => HC.out W (k3.then k)
  clear k3 HF HC
  go_wp2_with fail
  refine (HRT.out _ HF3.out).mono ?_
  rintro e w4 ⟨rfl, k4⟩
  have K4 := Lib.hid (K3.out.then k4)
  have HF4 := Lib.hid (HF3.out.on k4)
  have c4 := HC3.out _ k4
  have HC4 : Hid (∀ W, Kept (fun _ => False) w4 W → W.cell? ⟨w2.heap.size, 0, none⟩ = some (.slice ra n rc)) := Lib.hid fun W k => HC3.out W (k4.then k)
  clear k4 HF3 HC3 c3 K3 HA
  go_wp2_with fail
  refine (HTX.out _ (HK2.out.then K4.out) (HS.out.on K4.out)).mono ?_
  rintro e w5 ⟨rfl, k5⟩
  have K5 := Lib.hid (K4.out.then k5)
  have HF5 := Lib.hid (HF4.out.on k5)
  have c5 := HC4.out _ k5
  have HC5 : Hid (∀ W, Kept (fun _ => False) w5 W → W.cell? ⟨w2.heap.size, 0, none⟩ = some (.slice ra n rc)) := Lib.hid fun W k => HC4.out W (k5.then k)
  clear k5 HF4 HC4 c4 K4
  go_wp2_with fail
  refine (HPA.out _ (HK2.out.then K5.out)).mono ?_
  rintro e w6 ⟨a, c, rfl, hs6, k6⟩
  have HA6 := Lib.hid (Kept.alloc (fun _ => False) w6 (.cells #[.slice a n c] 26))
  have K6 := Lib.hid ((K5.out.then k6).then HA6.out)
  have HF6 := Lib.hid ((HF5.out.on k6).on HA6.out)
  have HS6 := Lib.hid (hs6.on HA6.out)
  have HC6 : Hid (∀ W, Kept (fun _ => False) (w6.alloc (.cells #[.slice a n c] 26)) W → W.cell? ⟨w2.heap.size, 0, none⟩ = some (.slice ra n rc) ∧ W.cell? ⟨w6.heap.size, 0, none⟩ = some (.slice a n c)) := Lib.hid fun W k => ⟨HC5.out W ((k6.then HA6.out).then k), (k.cell (p := ⟨w6.heap.size, 0, none⟩) (by simp) (fun h => h)).trans (new1P _ _ _)⟩
  obtain ⟨c6, d6⟩ := HC6.out _ (Kept.refl _ _)
  clear k6 hs6 HF5 HC5 c5 K5
  go_wp2_with fail
  refine (HEQ.out _ _ _ HS6.out (HS.out.on K6.out)).mono ?_
  rintro e w7 ⟨rfl, k7⟩
  have K7 := Lib.hid (K6.out.then k7)
  have HF7 := Lib.hid (HF6.out.on k7)
  have HS7 := Lib.hid (HS6.out.on k7)
  obtain ⟨c7, d7⟩ := HC6.out _ k7
  clear k7
  go_wp2_with fail
  refine (HIS.out _ _ HS7.out HF7.out).mono ?_
  rintro e w8 ⟨rfl, k8⟩
  have K8 := Lib.hid ((HK2.out.then K7.out).then k8)
  clear k8
  go_wp2_with fail
  go_ret
  exact ⟨rfl, K8.out⟩
end Go.Proofs.YtjglnpijngdpkaaGreatDoor
