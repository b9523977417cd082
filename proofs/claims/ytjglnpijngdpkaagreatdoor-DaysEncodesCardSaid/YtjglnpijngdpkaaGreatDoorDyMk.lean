import Derived.Test.YtjglnpijngdpkaaGreatDoorDyFi
import Derived.Test.YtjglnpijngdpkaaGreatDoorDyL
/-
  Days: the law's Make.
-/
namespace Go.Proofs.YtjglnpijngdpkaaGreatDoor
open Go.RowKit Go.Shelf
set_option linter.unusedSimpArgs false
set_option linter.unusedVariables false
set_option maxRecDepth 100000

theorem errD_zero : ∀ {l : List (Int × Int)}, (∀ p ∈ l, okSp p) → errD l = 0
  | [], _ => rfl
  | p :: r, h => by
    obtain ⟨h1, h2, h3⟩ := h p (by simp)
    unfold errD
    rw [if_pos (by simp; omega), if_neg (by omega)]
    exact errD_zero fun q hq => h q (List.mem_cons_of_mem _ hq)
theorem rowB_setCell {w : World} {row v x : Value} {t : List Bool} {g : Nat} (h : RowG EB w row t) (hc : w.cell? ⟨g, 0, none⟩ = some x) (hx : ∀ n, x ≠ .bool n) : RowG EB (w.setCell ⟨g, 0, none⟩ v) row t := by
  rcases h with h | ⟨b, off, cap, rfl, h1, h2, h3, h4⟩
  · exact Or.inl h
  · refine Or.inr ⟨b, off, cap, rfl, h1, h2, by rw [World.size_setCell]; exact h3, fun i hi j u hu => ?_⟩
    have hcell := h4 i hi j u hu
    have hu2 : ∃ n, u = .bool n := by
      have hm := List.mem_of_getElem? hu
      simp only [EB, List.mem_singleton] at hm
      exact ⟨_, hm⟩
    obtain ⟨n, rfl⟩ := hu2
    refine (World.cell?_setCell_other _ _ _ _ fun e => ?_).trans hcell
    rw [← e, hc] at hcell
    injection hcell with he
    exact hx n he

set_option maxHeartbeats 3200000 in
theorem makeD_any (w0 : World) (v : Value) (l : List (Nat × Nat)) (h : RowG EU w0 v l) (hl : ∀ p ∈ l, p.1 < 65536 ∧ p.2 < 65536) :
    Calls Tryz.prog 7 #[v] w0 fun e w' => ∃ sv fv t s, e = .returned (.tuple #[sv, fv, .bool true]) ∧ SetD w' sv t ∧ RowG EB w' fv s ∧ s.length = 30001 ∧ (∀ d, inD t d = spanIn (fitD l) d) ∧ (∀ d : Nat, d ≤ 30000 → s.getD d false = spanIn (fitD l) (d : Int)) ∧ Kept (fun _ => False) w0 w' := by
  obtain ⟨la, lc, rfl, h1, h2⟩ := h.form
  have HKA := Lib.hid (Kept.alloc (fun _ => False) w0 (.cells #[.slice none 0 0] 26))
  have HCS : Hid ((w0.alloc (.cells #[.slice none 0 0] 26)).cell? ⟨w0.heap.size, 0, none⟩ = some (.slice none 0 0) ∧ (w0.alloc (.cells #[.slice none 0 0] 26)).frozen? ⟨w0.heap.size, 0, none⟩ = false) := Lib.hid ⟨by go_simp, by go_simp⟩
  have HFI := Lib.hid (fitD_any (w0.alloc (.cells #[.slice none 0 0] 26)) _ l (h.on HKA.out) hl)
  have HZ := Lib.hid (errD_zero (fitD_ok l))
  have HL6 := Lib.hid (fitD_len l)
  have HOK := Lib.hid (fitD_ok l)
  obtain ⟨N0, hN0⟩ : ∃ N, N = l.length := ⟨_, rfl⟩
  rw [← hN0] at HFI ⊢
  clear h hl h1 h2 hN0
  go_enter Tryz.func7, Tryz.ntmps7
  go_wp2_with fail
  refine HFI.out.mono ?_
  clear HFI
  obtain ⟨Q, hQ⟩ : ∃ Q, Q = w0.heap.size := ⟨_, rfl⟩
  have HQ := Lib.hid hQ
  rw [← hQ] at HCS ⊢
  clear hQ
  generalize w0.alloc (.cells #[.slice none 0 0] 26) = w at *
  rintro e w1 ⟨u, rfl, o1, k1⟩
  obtain ⟨ua, uc, huf, u1, u2⟩ := o1.row.form
  subst huf
  have HU := Lib.hid o1.row
  have HSP := Lib.hid (spansL_any w1 _ (fitD l) o1.row (by have := HL6.out; omega))
  have K1 := Lib.hid k1
  obtain ⟨N, hN⟩ : ∃ N, N = (fitD l).length := ⟨_, rfl⟩
  rw [← hN] at HU HSP HL6 ⊢
  have HN := Lib.hid hN
  clear o1 k1 u1 u2 hN
  go_wp2_with fail
  refine HSP.out.mono ?_
  rintro e w2 ⟨v2, rfl, o2, k2⟩
  have K2 := Lib.hid (K1.out.then k2)
  have HU2 := Lib.hid (HU.out.on k2)
  have hof := ofD_any w2 _ (fitD l) o2.row (by have := HL6.out; have := HN.out; omega)
  rw [HZ.out] at hof
  have HOF := Lib.hid hof
  clear o2 k2 hof HSP
  go_wp2_with fail
  refine HOF.out.mono ?_
  rintro e w3 ⟨sv, rfl, k3, ⟨-, t, hset, hin⟩ | ⟨hne, -⟩⟩
  rotate_left
  · exact absurd rfl hne
  obtain ⟨row, hsv, hr, hcn⟩ := hset
  obtain ⟨ta, tc, hrf, _, _⟩ := hr.form
  subst hsv hrf
  have HIN := Lib.hid hin
  have hka : Kept (fun _ => False) w3 (w3.alloc (.cells #[.slice ta t.length tc] 26)) := Kept.alloc _ _ _
  have HSET : Hid (SetD (w3.alloc (.cells #[.slice ta t.length tc] 26)) (.agg #[.slice ta t.length tc]) t) := Lib.hid (SetD.on ⟨_, rfl, hr, hcn⟩ hka)
  have K4 := Lib.hid ((K2.out.then k3).then hka)
  have HB6 : Hid ((w3.alloc (.cells #[.slice ta t.length tc] 26)).cell? ⟨w3.heap.size, 0, none⟩ = some (.slice ta t.length tc)) := Lib.hid (by go_simp)
  have HU4 := Lib.hid (HU2.out.on (k3.then hka))
  clear hin hr hcn k3 hka HOF
  go_wp2_with fail
  generalize w3.alloc (.cells #[.slice ta t.length tc] 26) = w4 at *
  generalize w3.heap.size = Q6 at *
  have HC : Hid (∀ W, Kept (fun _ => False) w4 W → W.cell? ⟨Q, 0, none⟩ = some (.slice none 0 0) ∧ W.frozen? ⟨Q, 0, none⟩ = false ∧ W.cell? ⟨Q6, 0, none⟩ = some (.slice ta t.length tc)) := Lib.hid fun W hk => by
    obtain ⟨a0, a1⟩ := HCS.out
    have hlt := World.block_lt_of_cell? w _ a0
    have hk2 := K4.out.then hk
    refine ⟨(hk2.cell hlt (fun h => h)).trans a0, ?_, (hk.cell (World.block_lt_of_cell? w4 _ HB6.out) (fun h => h)).trans HB6.out⟩
    rw [← a1]
    unfold World.frozen?
    rw [hk2.block _ hlt (fun h => h)]
  have HRO : Hid (∀ W, Kept (fun _ => False) w4 W → Calls Tryz.prog 31 #[.slice ua N uc] W fun e w' => ∃ fv s, e = .returned fv ∧ RowG EB w' fv s ∧ s.length = 30001 ∧ (∀ d : Nat, d ≤ 30000 → s.getD d false = spanIn (fitD l) (d : Int)) ∧ Kept (fun _ => False) w4 w') := Lib.hid fun W hk => (rofD_any W _ (fitD l) (HU4.out.on hk) (by have := HL6.out; have := HN.out; omega) HOK.out).mono fun e w' ⟨fv, s, h1, h2, h3, h4, h5⟩ => ⟨fv, s, h1, h2, h3, h4, hk.then h5⟩
  obtain ⟨c0, f0, c6⟩ := HC.out w4 (Kept.refl _ _)
  go_region_with (go_at_call 31; with_reducible refine (HRO.out _ (by first | exact Kept.refl _ _ | exact (Kept.refl _ _).drew)).mono ?_; rintro e w5 ⟨fv, s, rfl, h5, g5, v5, k5⟩; have H5 := Lib.hid h5; have G5 := Lib.hid g5; have V5 := Lib.hid v5; have K5 := Lib.hid k5; clear h5 g5 v5 c0 f0 c6; obtain ⟨c0, f0, c6⟩ := HC.out w5 k5; clear k5)
  all_goals
    obtain ⟨ra, rc, hre, c2, f2, r0, hset, hkk⟩ := ret_set (g := Q) HKA.out (by have := HQ.out; omega) HCS.out.1 HCS.out.2 (fun n h => by cases h) (K4.out.then K5.out) (HSET.out.on K5.out)
    injection hre with hre
    injection hre with hre
    injection hre with hre _
    injection hre with e1 e2 e3
    subst e1 e3
    have HST := Lib.hid hset; have HKK := Lib.hid hkk
    have HFL := Lib.hid (rowB_setCell (v := .slice ta t.length tc) H5.out c2 (fun n h => by cases h))
    clear hset hkk
    go_wp2_with fail
    refine bodyPost_ret (v := .tuple #[.agg #[.slice ta t.length tc], fv, .bool true]) (by simp [results, Tryz.results7, go_sem, r0]) rfl (by first | exact ⟨_, _, t, s, rfl, HST.out, HFL.out, G5.out, HIN.out, V5.out, HKK.out⟩ | exact ⟨_, _, rfl, t, HST.out, s, HFL.out, G5.out, HIN.out, (fun d hd => by have h9 := V5.out d hd; simpa [List.getD] using h9), HKK.out⟩ | exact ⟨_, _, rfl, t, s, HST.out, HFL.out, G5.out, HIN.out, V5.out, HKK.out⟩)
end Go.Proofs.YtjglnpijngdpkaaGreatDoor
