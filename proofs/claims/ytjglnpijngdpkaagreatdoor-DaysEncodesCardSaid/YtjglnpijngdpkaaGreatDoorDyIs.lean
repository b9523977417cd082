import Derived.Test.YtjglnpijngdpkaaGreatDoorDyLn
import Derived.Test.YtjglnpijngdpkaaGreatDoorDyRs
import Derived.Test.YtjglnpijngdpkaaGreatDoorDyX
import Derived.Test.YtjglnpijngdpkaaGreatDoorDyB
import Derived.Test.YtjglnpijngdpkaaGreatDoorDyE
import Derived.Deep.RegionHeld3
/-
  Days: the law's is: a set against the flags that the reference has.
-/
namespace Go.Proofs.YtjglnpijngdpkaaGreatDoor
open Go.RowKit Go.Shelf
set_option linter.unusedSimpArgs false
set_option linter.unusedVariables false
set_option maxRecDepth 100000

theorem cntD_at {t : List Int} (h : t.Pairwise (· < ·)) {j : Nat} (hj : j < t.length) : cntD t (t.getD j 0) = j + 1 ∧ cntD t (t.getD j 0 - 1) = j := by
  have e : turnD t j = t.getD j 0 := by unfold turnD; simp [List.getD, hj]
  have h1 := (turnD_lt hj).2
  rw [e] at h1
  have h2 : ∀ x ∈ t.take j, x < t.getD j 0 := fun x hx => by
    have hp := h
    rw [← List.take_append_drop j t, List.pairwise_append] at hp
    exact hp.2.2 x hx _ (by have := (turnD_lt hj).1; rw [e] at this; exact this)
  have h3 := takeD_succ hj
  rw [e] at h3
  have h4 : t.drop j = t.getD j 0 :: t.drop (j + 1) := by rw [List.drop_eq_getElem_cons hj]; simp [List.getD, hj]
  constructor
  · refine cntD_split (j + 1) hj (fun x hx => ?_) (fun x hx => h1 x hx h)
    rw [h3, List.mem_append] at hx
    rcases hx with hx | hx
    · have := h2 x hx; omega
    · have : x = t.getD j 0 := by simpa using hx
      omega
  · refine cntD_split j (by omega) (fun x hx => by have := h2 x hx; omega) (fun x hx => ?_)
    rw [h4] at hx
    rcases List.mem_cons.1 hx with hx | hx
    · omega
    · have := h1 x hx h; omega
/-- The ends of a span. -/
theorem spansD_edges {t : List Int} (h : CanD t) {p : Int × Int} (hp : p ∈ spansD t) : inD t p.1 = true ∧ inD t p.2 = true ∧ inD t (p.1 - 1) = false ∧ inD t (p.2 + 1) = false := by
  obtain ⟨k, hk, e⟩ := List.mem_iff_getElem.1 hp
  rw [spansD_len] at hk
  have h1 : 2 * k + 1 < t.length := by have := h.even; omega
  have h2 := spansD_at t k h1
  rw [List.getElem?_eq_getElem (by rw [spansD_len]; exact hk), e] at h2
  have h3 : p = (t.getD (2 * k) 0, t.getD (2 * k + 1) 0 - 1) := by injection h2
  obtain ⟨a1, a2⟩ := cntD_at h.asc (j := 2 * k) (by omega)
  obtain ⟨b1, b2⟩ := cntD_at h.asc h1
  rw [h3]
  unfold inD
  simp only []
  rw [a1, a2, b2, show t.getD (2 * k + 1) 0 - 1 + 1 = t.getD (2 * k + 1) 0 by omega, b1]
  unfold oddD
  refine ⟨decide_eq_true (by omega), decide_eq_true (by omega), decide_eq_false (by omega), decide_eq_false (by omega)⟩

set_option maxHeartbeats 6400000 in
theorem isD_any (w0 : World) (s v : Value) (t : List Int) (f : List Bool) (hs : SetD w0 s t) (hr : RowG EB w0 v f) (hf : f.length = 30001) (hv : ∀ d : Nat, d ≤ 30000 → f.getD d false = inD t (d : Int)) :
    Calls Tryz.prog 12 #[s, v] w0 fun e w' => e = .returned (.bool true) ∧ Kept (fun _ => False) w0 w' := by
  have hsW := hs
  obtain ⟨row, rfl, hrow, hcan⟩ := hs
  obtain ⟨ra, rc, rfl, _, _⟩ := hrow.form
  obtain ⟨fa, fc, rfl, _, _⟩ := hr.form
  have HK1 := Lib.hid (Kept.alloc (fun _ => False) w0 (.cells #[.slice ra t.length rc] 26))
  have HS : Hid (∀ W, Kept (fun _ => False) w0 W → SetD W (.agg #[.slice ra t.length rc]) t) := Lib.hid fun W k => hsW.on k
  have c0 : (w0.alloc (.cells #[.slice ra t.length rc] 26)).cell? ⟨w0.heap.size, 0, none⟩ = some (.slice ra t.length rc) := by go_simp
  have HCL : Hid (∀ W, Kept (fun _ => False) (w0.alloc (.cells #[.slice ra t.length rc] 26)) W → W.cell? ⟨w0.heap.size, 0, none⟩ = some (.slice ra t.length rc)) := Lib.hid fun W k => (k.cell (p := ⟨w0.heap.size, 0, none⟩) (by simp) (fun h => h)).trans c0
  obtain ⟨l, hl⟩ : ∃ l, l = spansD t := ⟨_, rfl⟩
  obtain ⟨y, hy⟩ : ∃ y, y = lenSp l := ⟨_, rfl⟩
  obtain ⟨b, hb⟩ : ∃ b, b = decide (t = []) := ⟨_, rfl⟩
  have HSPA : Hid (∀ W, Kept (fun _ => False) w0 W → Calls Tryz.prog 18 #[.agg #[.slice ra t.length rc]] W fun e w' => ∃ u, e = .returned u ∧ OwnG ESp 49 W.heap.size w' u l ∧ Kept (fun _ => False) W w') := Lib.hid fun W k => by rw [hl]; exact spansP_any _ _ _ (HS.out W k)
  have HRSP : Hid (∀ W, Kept (fun _ => False) w0 W → Calls Tryz.prog 34 #[.slice fa f.length fc] W fun e w' => ∃ u, e = .returned u ∧ OwnG ESp 62 W.heap.size w' u l ∧ Kept (fun _ => False) W w') := Lib.hid fun W k => by rw [hl]; exact rspansD_any _ _ _ _ (hr.on k) hf hcan hv
  have HLE : Hid (∀ W, Kept (fun _ => False) w0 W → Calls Tryz.prog 39 #[.agg #[.slice ra t.length rc]] W fun e w' => e = .returned (.int .i64 y) ∧ Kept (fun _ => False) W w') := Lib.hid fun W k => by rw [hy, hl]; exact lenP_any _ _ _ (HS.out W k)
  have HRL : Hid (∀ W, Kept (fun _ => False) w0 W → Calls Tryz.prog 40 #[.slice fa f.length fc] W fun e w' => e = .returned (.int .i64 y) ∧ W = w') := Lib.hid fun W k => by rw [hy, hl, ← lenD_ref hf hcan hv]; exact rlenD_any _ _ _ (hr.on k) (by omega)
  have HEM : Hid (∀ W, Kept (fun _ => False) w0 W → Calls Tryz.prog 14 #[.agg #[.slice ra t.length rc]] W fun e w' => e = .returned (.bool b) ∧ Kept (fun _ => False) W w') := Lib.hid fun W k => by rw [hb]; exact dayEmpty_any _ _ _ (HS.out W k)
  have HHA : Hid (∀ W d c, c = inD t d → Kept (fun _ => False) w0 W → Calls Tryz.prog 41 #[.agg #[.slice ra t.length rc], .int .i64 d] W fun e w' => e = .returned (.bool c) ∧ Kept (fun _ => False) W w') := Lib.hid fun W d c e k => by rw [e]; exact hasD_any _ _ _ _ (HS.out W k)
  have HED := Lib.hid (fun p (hp : p ∈ l) => spansD_edges hcan (by rw [← hl]; exact hp))
  have HOK := Lib.hid (fun p (hp : p ∈ l) => spansD_ok hcan p (by rw [← hl]; exact hp))
  have hlb : l.length ≤ 15001 := by rw [hl, spansD_len]; have := hcan.len; omega
  obtain ⟨N, hN⟩ : ∃ N, N = l.length := ⟨_, rfl⟩
  have hbN : ((N : Int) == 0) = b := by
    rw [hb, Bool.eq_iff_iff, beq_iff_eq, decide_eq_true_iff]
    rw [hN, hl, spansD_len]
    have := hcan.even
    rw [← List.length_eq_zero_iff]
    omega
  rw [← hN] at hlb
  have HN := Lib.hid hN
  obtain ⟨n, hn⟩ : ∃ n, n = t.length := ⟨_, rfl⟩
  obtain ⟨m, hm⟩ : ∃ m, m = f.length := ⟨_, rfl⟩
  rw [← hn] at HK1 HS HCL HLE HEM HHA HSPA c0
  rw [← hm] at HRSP HRL
  rw [← hn, ← hm]
  clear hl hy hb hN hn hm hsW hrow hcan hr hf hv HS
  go_enter Tryz.func12, Tryz.ntmps12
  go_wp2_with fail
  refine (HSPA.out _ HK1.out).mono ?_
  generalize hw1 : w0.alloc (.cells #[.slice ra n rc] 26) = w1 at *
  clear hw1
  rintro e w2 ⟨u, rfl, hu, k2⟩
  obtain ⟨la, lc, rfl, _, _⟩ := hu.form
  rw [← HN.out] at hu ⊢
  have HU2 : Hid (RowG ESp w2 (.slice la N lc) l) := Lib.hid hu.row
  have HK2 := Lib.hid (HK1.out.then k2)
  have HC2 := Lib.hid (fun W (k : Kept (fun _ => False) w2 W) => HCL.out W (k2.then k))
  clear hu k2 HCL HSPA HK1 c0
  go_wp2_with fail
  refine (HRSP.out _ HK2.out).mono ?_
  rintro e w3 ⟨u, rfl, hu, k3⟩
  obtain ⟨ka, kc, rfl, _, _⟩ := hu.form
  rw [← HN.out] at hu ⊢
  have HV3 : Hid (RowG ESp w3 (.slice ka N kc) l) := Lib.hid hu.row
  have HU3 := Lib.hid (HU2.out.on k3)
  have HK3 := Lib.hid (HK2.out.then k3)
  have HC3 := Lib.hid (fun W (k : Kept (fun _ => False) w3 W) => HC2.out W (k3.then k))
  clear hu k3 HC2 HRSP HK2 HU2
  have c3 := HC3.out w3 (Kept.refl _ _)
  go_wp2_with fail
  refine (HLE.out _ HK3.out).mono ?_
  rintro e w4 ⟨rfl, k4⟩
  have HK4 := Lib.hid (HK3.out.then k4)
  have HJ4 := Lib.hid k4
  clear k4
  go_wp2_with fail
  refine (HRL.out _ HK4.out).mono ?_
  rintro e w5 ⟨rfl, rfl⟩
  have c4 := HC3.out _ HJ4.out
  go_wp2_with fail
  refine (HEM.out _ HK4.out).mono ?_
  rintro e w6 ⟨rfl, k6⟩
  have HJ6 := Lib.hid (HJ4.out.then k6)
  have HK6 := Lib.hid (HK4.out.then k6)
  clear k6 HJ4 HK4 HK3 c3 c4 HLE HRL HEM
  have hbb : ∀ c : Bool, (c != c) = false := fun c => by cases c <;> rfl
  have HV6 := Lib.hid (HV3.out.on HJ6.out)
  have HU6 := Lib.hid (HU3.out.on HJ6.out)
  have HC6 := Lib.hid (fun W (k : Kept (fun _ => False) w6 W) => HC3.out W (HJ6.out.then k))
  clear HV3 HU3 HC3 HJ6
  go_wp2_with fail
  go_loopw [7, 8, 35] (fun _ _ iv wr => ∃ k : Nat, k ≤ N ∧ iv = .int .i64 (k : Int) ∧ Hid (Kept (fun _ => False) w6 wr)) (fun _ _ iv _ => N - (intOf iv).toNat)
  case atStart => exact ⟨0, Nat.zero_le _, rfl, Lib.hid (Kept.refl _ _)⟩
  case round =>
    obtain ⟨k, hk, rfl, hI⟩ := hrel
    by_cases hlt : k < N
    · have l1 : (k : Int) < (N : Int) := by omega
      have l0 : (0 : Int) ≤ (k : Int) := by omega
      have hkl : k < l.length := by have := HN.out; omega
      have hm : l.getD k (0, 0) ∈ l := by simp [List.getD, hkl]
      obtain ⟨g, off, rfl, hg, hc⟩ := HU6.out.at (k := k) hkl
      obtain ⟨g2, off2, rfl, hg2, hc2⟩ := HV6.out.at (k := k) hkl
      have hed := HED.out _ hm
      have hok := HOK.out _ hm
      change AtG ESp w6 g (off + k * 2) (l.getD k (0, 0)) at hc
      change AtG ESp w6 g2 (off2 + k * 2) (l.getD k (0, 0)) at hc2
      generalize l.getD k (0, 0) = p at hc hc2 hed hok
      obtain ⟨pf, pt⟩ := p
      obtain ⟨c0, c1⟩ := atESp hc
      obtain ⟨d0, d1⟩ := atESp hc2
      obtain ⟨e0, e1, e2, e3⟩ := hed
      obtain ⟨o1, o2, o3⟩ := hok
      simp only at c0 c1 d0 d1 e0 e1 e2 e3 o1 o2 o3
      have HCE : Hid (∀ W, Kept (fun _ => False) w6 W → (W.cell? ⟨g, off + k * 2, none⟩ = some (.int .i64 pf) ∧ W.cell? ⟨g, off + k * 2 + 1, none⟩ = some (.int .i64 pt)) ∧ W.cell? ⟨w0.heap.size, 0, none⟩ = some (.slice ra n rc)) := Lib.hid fun W kk =>
        ⟨⟨(kk.cell (p := ⟨g, off + k * 2, none⟩) hg (fun h => h)).trans c0, (kk.cell (p := ⟨g, off + k * 2 + 1, none⟩) hg (fun h => h)).trans c1⟩, HC6.out W kk⟩
      have f0 : wr.cell? ⟨g2, off2 + k * 2, none⟩ = some (.int .i64 pf) := (hI.out.cell (p := ⟨g2, off2 + k * 2, none⟩) hg2 (fun h => h)).trans d0
      have f1 : wr.cell? ⟨g2, off2 + k * 2 + 1, none⟩ = some (.int .i64 pt) := (hI.out.cell (p := ⟨g2, off2 + k * 2 + 1, none⟩) hg2 (fun h => h)).trans d1
      have HP0 := Lib.hid (fun W (kk : Kept (fun _ => False) w6 W) => HHA.out W pf true e0.symm (HK6.out.then kk))
      have HP1 := Lib.hid (fun W (kk : Kept (fun _ => False) w6 W) => HHA.out W pt true e1.symm (HK6.out.then kk))
      have HP2 := Lib.hid (fun W (kk : Kept (fun _ => False) w6 W) => HHA.out W (pf - 1) false e2.symm (HK6.out.then kk))
      have HP3 := Lib.hid (fun W (kk : Kept (fun _ => False) w6 W) => HHA.out W (pt + 1) false e3.symm (HK6.out.then kk))
      have b1 : IntKind.i64.wrap (pf - 1) = pf - 1 := by rw [IntKind.wrap_i64]; omega
      have b2 : IntKind.i64.wrap (pt + 1) = pt + 1 := by rw [IntKind.wrap_i64]; omega
      have HKW := Lib.hid (hI.out.then (Kept.alloc (fun _ => False) wr (.cells #[.int .i64 pf, .int .i64 pt] 62)))
      have hx0 : (wr.alloc (.cells #[.int .i64 pf, .int .i64 pt] 62)).cell? ⟨wr.heap.size, 0, none⟩ = some (.int .i64 pf) := by go_simp
      have hx1 : (wr.alloc (.cells #[.int .i64 pf, .int .i64 pt] 62)).cell? ⟨wr.heap.size, 1, none⟩ = some (.int .i64 pt) := by go_simp
      have HXX : Hid (∀ W, Kept (fun _ => False) (wr.alloc (.cells #[.int .i64 pf, .int .i64 pt] 62)) W → W.cell? ⟨wr.heap.size, 0, none⟩ = some (.int .i64 pf) ∧ W.cell? ⟨wr.heap.size, 1, none⟩ = some (.int .i64 pt)) := Lib.hid fun W kk =>
        ⟨(kk.cell (p := ⟨wr.heap.size, 0, none⟩) (by simp) (fun h => h)).trans hx0, (kk.cell (p := ⟨wr.heap.size, 1, none⟩) (by simp) (fun h => h)).trans hx1⟩
      have HKX := Lib.hid (show (wr.heap.size < (wr.alloc (.cells #[.int .i64 pf, .int .i64 pt] 62)).heap.size) by simp)
      clear hc hc2 hg hg2 hm d0 d1 e0 e1 e2 e3 HHA
      go_wp2_with fail
      obtain ⟨wx, hwx⟩ : ∃ wx, wx = wr.alloc (.cells #[.int .i64 pf, .int .i64 pt] 62) := ⟨_, rfl⟩
      obtain ⟨Q, hQ⟩ : ∃ Q, Q = wr.heap.size := ⟨_, rfl⟩
      rw [← hwx] at HKW hx0 hx1 HXX ⊢
      rw [← hQ] at hx0 hx1 HXX ⊢
      have HKB := Lib.hid (fun W (kk : Kept (fun _ => False) wx W) => HKW.out.then kk)
      have HSS : Hid (∀ W, Kept (fun _ => False) wx W → ((W.cell? ⟨g, off + k * 2, none⟩ = some (.int .i64 pf) ∧ W.cell? ⟨g, off + k * 2 + 1, none⟩ = some (.int .i64 pt)) ∧ W.cell? ⟨w0.heap.size, 0, none⟩ = some (.slice ra n rc)) ∧ (W.cell? ⟨Q, 0, none⟩ = some (.int .i64 pf) ∧ W.cell? ⟨Q, 1, none⟩ = some (.int .i64 pt))) := Lib.hid fun W kk => ⟨HCE.out W (HKB.out W kk), HXX.out W kk⟩
      clear hwx hQ hx0 hx1 HXX HCE c0 c1 f0 f1 HKX
      go_region_held3 (fun W => ((W.cell? ⟨g, off + k * 2, none⟩ = some (.int .i64 pf) ∧ W.cell? ⟨g, off + k * 2 + 1, none⟩ = some (.int .i64 pt)) ∧ W.cell? ⟨w0.heap.size, 0, none⟩ = some (.slice ra n rc)) ∧ (W.cell? ⟨Q, 0, none⟩ = some (.int .i64 pf) ∧ W.cell? ⟨Q, 1, none⟩ = some (.int .i64 pt)))
        (first | exact HSS.out _ KC.out | exact HSS.out _ (Kept.refl _ _) | exact HSS.out _ (Kept.refl _ _).drew)
        ((first | (go_at_call 41; with_reducible refine (HP0.out _ (HKB.out _ (show Kept (fun _ => False) wx _ from (by first | exact KC.out | exact Kept.refl _ _ | exact (Kept.refl _ _).drew)))).mono ?_; rintro e qq ⟨rfl, j1⟩; have KD := Lib.hid (Kept.then (show Kept (fun _ => False) wx _ from (by first | exact KC.out | exact Kept.refl _ _ | exact (Kept.refl _ _).drew)) j1); (try clear KC); have KC := KD; clear KD; clear j1) | (go_at_call 41; with_reducible refine (HP1.out _ (HKB.out _ (show Kept (fun _ => False) wx _ from (by first | exact KC.out | exact Kept.refl _ _ | exact (Kept.refl _ _).drew)))).mono ?_; rintro e qq ⟨rfl, j1⟩; have KD := Lib.hid (Kept.then (show Kept (fun _ => False) wx _ from (by first | exact KC.out | exact Kept.refl _ _ | exact (Kept.refl _ _).drew)) j1); (try clear KC); have KC := KD; clear KD; clear j1) | (go_at_call 41; with_reducible refine (HP2.out _ (HKB.out _ (show Kept (fun _ => False) wx _ from (by first | exact KC.out | exact Kept.refl _ _ | exact (Kept.refl _ _).drew)))).mono ?_; rintro e qq ⟨rfl, j1⟩; have KD := Lib.hid (Kept.then (show Kept (fun _ => False) wx _ from (by first | exact KC.out | exact Kept.refl _ _ | exact (Kept.refl _ _).drew)) j1); (try clear KC); have KC := KD; clear KD; clear j1) | (go_at_call 41; with_reducible refine (HP3.out _ (HKB.out _ (show Kept (fun _ => False) wx _ from (by first | exact KC.out | exact Kept.refl _ _ | exact (Kept.refl _ _).drew)))).mono ?_; rintro e qq ⟨rfl, j1⟩; have KD := Lib.hid (Kept.then (show Kept (fun _ => False) wx _ from (by first | exact KC.out | exact Kept.refl _ _ | exact (Kept.refl _ _).drew)) j1); (try clear KC); have KC := KD; clear KD; clear j1)))
      all_goals
        have HKE := Lib.hid (HKB.out _ KC.out)
        clear KC
        go_wp2_with fail
        go_roundw
        case rel => exact ⟨k + 1, by omega, by go_num, HKE⟩
        case measure => simp [intOf]; omega
    · obtain rfl : k = N := by omega
      have HE := Lib.hid (HK6.out.then hI.out)
      go_wp2_with fail
      go_ret
      exact ⟨rfl, HE.out⟩
end Go.Proofs.YtjglnpijngdpkaaGreatDoor
