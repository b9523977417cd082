/-
  arbaclaw05.DaysNext returns true.
-/
import Derived.Test.YtcipkloopiflpaaDoorDyAw
import Derived.Test.YtcipkloopiflpaaDoorDyMk
namespace Go.Proofs.YtcipkloopiflpaaDoor
open Go.RowKit Go.Shelf
set_option linter.unusedSimpArgs false
set_option linter.unusedVariables false
set_option maxRecDepth 100000

theorem next_agree {t : List Int} {f : List Bool} {d n r : Int} {ok : Bool} (hc : CanD t) (hv : ∀ x : Nat, x ≤ 30000 → f.getD x false = inD t (x : Int)) (h : NextD t d n ok) (k : NextF f d r) :
    (ok = true ∧ r = n ∧ 0 ≤ n) ∨ (ok = false ∧ r = -1 ∧ n = 0) := by
  rcases h with ⟨h1, h2, h3, h4⟩ | ⟨h1, h2, h3⟩
  · have hn0 : 0 ≤ n := by
      by_cases e : n < 0
      · rw [hc.before e] at h3; cases h3
      · omega
    have hn1 : n ≤ 30000 := by
      by_cases e : 30001 ≤ n
      · rw [hc.out e] at h3; cases h3
      · omega
    obtain ⟨m, rfl⟩ : ∃ m : Nat, n = (m : Int) := ⟨n.toNat, by omega⟩
    rcases k with ⟨k1, k2⟩ | ⟨q, rfl, k2, k3, k4, k5⟩
    · have := k2 m h2 (by omega)
      rw [hv m (by omega), h3] at this; cases this
    · refine Or.inl ⟨h1, ?_, hn0⟩
      by_cases e : q < m
      · have := h4 q k2 (by omega)
        rw [← hv q k3, k4] at this; cases this
      · by_cases e2 : m < q
        · have := k5 m h2 e2
          rw [hv m (by omega), h3] at this; cases this
        · omega
  · rcases k with ⟨k1, k2⟩ | ⟨q, rfl, k2, k3, k4, k5⟩
    · exact Or.inr ⟨h1, k1, h2⟩
    · have := h3 q k2
      rw [← hv q k3, k4] at this; cases this

set_option maxHeartbeats 3200000 in
theorem nextL_any (w0 : World) (v : Value) (l : List (Nat × Nat)) (d : Int) (h : RowG EU w0 v l) (hl : ∀ p ∈ l, p.1 < 65536 ∧ p.2 < 65536) (hT : TabD w0) :
    Calls Tryd.prog 6 #[v, .int .i64 d] w0 fun e w' => e = .returned (.bool true) ∧ Kept (fun _ => False) w0 w' := by
  obtain ⟨la, lc, rfl, _, _⟩ := h.form
  have HV := Lib.hid h; have HB := Lib.hid hl; have HT := Lib.hid hT
  obtain ⟨N, hN⟩ : ∃ N, N = l.length := ⟨_, rfl⟩
  rw [← hN] at HV ⊢
  clear h hl hT hN
  go_enter Tryd.func6, Tryd.ntmps6
  go_wp2_with fail
  refine (awD_any w0 HT.out).mono ?_
  rintro e w1 ⟨rfl, k1⟩
  have HK1 := Lib.hid k1
  clear k1
  go_wp2_with fail
  refine (makeD_any w1 _ l (HV.out.on HK1.out) HB.out).mono ?_
  rintro e w2 ⟨sv, fv, t, f, rfl, hs, hf, hfl, hin, hfv, k2⟩
  obtain ⟨row, rfl, hrow, hcan⟩ := hs
  obtain ⟨ra, rc, rfl, _, _⟩ := hrow.form
  obtain ⟨fa, fc, rfl, _, _⟩ := hf.form
  have HK2 := Lib.hid (HK1.out.then k2)
  have HS : Hid (SetD w2 (.agg #[.slice ra t.length rc]) t) := Lib.hid ⟨_, rfl, hrow, hcan⟩
  have HF := Lib.hid hf; have HFL := Lib.hid hfl
  have HAG : Hid (∀ x : Nat, x ≤ 30000 → f.getD x false = inD t (x : Int)) := Lib.hid fun x hx => by rw [hfv x hx, hin]
  have HCN := Lib.hid hcan
  have HA := Lib.hid (Kept.alloc (fun _ => False) w2 (.cells #[.slice ra t.length rc] 27))
  obtain ⟨n, hn⟩ : ∃ n, n = t.length := ⟨_, rfl⟩
  obtain ⟨m, hm⟩ : ∃ m, m = f.length := ⟨_, rfl⟩
  rw [← hn] at HS HA ⊢
  rw [← hm] at HF ⊢
  clear hrow hcan hf hfl hin hfv k2 hn hm HV HB
  go_wp2_with fail
  refine (nextD_any _ t d _ (HS.out.on HA.out)).mono ?_
  rintro e w3 ⟨nx, ok, rfl, hnx, k3⟩
  have HK3 := Lib.hid ((HK2.out.then HA.out).then k3)
  have HF3 := Lib.hid ((HF.out.on HA.out).on k3)
  have HNX := Lib.hid hnx
  clear hnx k3 HF HA HK2
  go_wp2_with fail
  refine (rnextD_any _ _ f d HF3.out HFL.out).mono ?_
  rintro e w4 ⟨r, rfl, hr, rfl⟩
  have hag := next_agree HCN.out HAG.out HNX.out hr
  clear hr HNX HAG HS HCN
  rcases hag with ⟨rfl, rfl, h0⟩ | ⟨rfl, rfl, rfl⟩
  · have h1 : max r 0 = r := by omega
    go_wp2_with fail
    go_ret
    exact ⟨rfl, HK3.out⟩
  · go_wp2_with fail
    go_ret
    exact ⟨rfl, HK3.out⟩
end Go.Proofs.YtcipkloopiflpaaDoor
