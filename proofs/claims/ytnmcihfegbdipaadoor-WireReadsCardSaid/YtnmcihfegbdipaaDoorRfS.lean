/-
  The reference's reader of layer 2: Set.
-/
import Derived.Test.YtnmcihfegbdipaaDoorRfR
import Derived.Test.YtnmcihfegbdipaaDoorRfM
import Derived.Test.YtnmcihfegbdipaaDoorBAkM
import Derived.Test.YtnmcihfegbdipaaDoorRSet
namespace Go.Proofs.YtnmcihfegbdipaaDoor
open Go.RowKit
set_option linter.unusedVariables false

theorem Ints.at2 {w : World} {a : Option Addr} {n c : Nat} {xs : List Int} (h : Ints w (.slice a n c) xs) : ∀ k, k < xs.length → ∃ g off, a = some ⟨g, off, none⟩ ∧ w.cell? ⟨g, off + k, none⟩ = some (.int .i64 (xs.getD k 0)) := by
  intro k hk
  rcases h with ⟨_, rfl⟩ | ⟨g, off, cap, e, _, _, h3, h4⟩
  · simp at hk
  · cases e
    exact ⟨g, off, rfl, h4 k hk⟩

set_option maxRecDepth 100000 in
set_option maxHeartbeats 800000 in
theorem mset_bad (w : World) (mb : Nat) (most err : Int) (c1 : w.cell? ⟨mb, 1, none⟩ = some (.int .i64 err)) (he : (err == 0) = false) (he2 : (err != 0) = true) :
    Calls Tryd.prog 74 #[.pointer (some ⟨mb, 0, none⟩), .int .i64 most] w fun e w' => e = .returned (.slice none 0 0) ∧ w = w' := by
  go_enter Tryd.func74, Tryd.ntmps74
  go_wp2_with fail
  go_ret
  exact ⟨rfl, rfl⟩

/-- What Bytes gives, asked for at most 512. -/
def ByAns (w : World) (mb : Nat) (v : Value) (p rest : List Nat) (e2 : Int) : Prop :=
  Calls Tryd.prog 65 #[.pointer (some ⟨mb, 0, none⟩), .int .i64 512] w fun e w' => ∃ q v', e = .returned q ∧ Reads w' q p ∧ (∀ k, q.ownBlock = some k → w.heap.size ≤ k) ∧
      Rd w' mb v' rest e2 ∧ v'.ownBlock = v.ownBlock ∧ Kept (fun k => k = mb) w w'

section
variable (w : World) (mb : Nat) (v : Value) (xs p rest : List Nat) (most : Int) (h : Rd w mb v xs 0)
set_option maxRecDepth 100000 in
set_option maxHeartbeats 800000 in
include h in
theorem mset_no (e2 : Int) (HB : Hid (ByAns w mb v p xs e2)) (he : (e2 == 0) = false) (he2 : (e2 != 0) = true) :
    Calls Tryd.prog 74 #[.pointer (some ⟨mb, 0, none⟩), .int .i64 most] w fun e w' => ∃ u v', e = .returned u ∧ Ints w' u [] ∧ (∀ k, u.ownBlock = some k → w.heap.size ≤ k) ∧ Rd w' mb v' xs e2 ∧ v'.ownBlock = v.ownBlock ∧ Kept (fun k => k = mb) w w' := by
  have c0 := h.cell0; have c1 := h.cell1
  clear h
  go_enter Tryd.func74, Tryd.ntmps74
  go_wp2_with fail
  refine HB.out.mono ?_
  rintro e w1 ⟨q, v1, rfl, hq, hqb, hr1, hv1, hk1⟩
  clear c0 c1
  have c1 := hr1.cell1
  have HR1 := Lib.hid hr1; have HV := Lib.hid hv1; have HK := Lib.hid hk1
  clear hr1 hv1 hk1 hq hqb
  go_wp2_with fail
  go_ret
  exact ⟨_, v1, rfl, Or.inl ⟨rfl, rfl⟩, fun k hk => by simp [Value.ownBlock] at hk, HR1.out, HV.out, HK.out⟩

set_option maxRecDepth 100000 in
set_option maxHeartbeats 1600000 in
include h in
theorem mset_last (HB : Hid (ByAns w mb v p rest 0)) (hby : ∀ b ∈ p, b < 256) (hpl : p.length ≤ 512) (h0 : 0 < p.length) (hz : p.getD (p.length - 1) 0 = 0) :
    Calls Tryd.prog 74 #[.pointer (some ⟨mb, 0, none⟩), .int .i64 most] w fun e w' => ∃ u v', e = .returned u ∧ Ints w' u [] ∧ (∀ k, u.ownBlock = some k → w.heap.size ≤ k) ∧ Rd w' mb v' xs 6 ∧ v'.ownBlock = v.ownBlock ∧ Kept (fun k => k = mb) w w' := by
  obtain ⟨va, vc, rfl⟩ := h.reads.formR8
  have c0 := h.cell0; have c1 := h.cell1
  have HH := Lib.hid h
  have HMB := Lib.hid (fun W q hq => rmemb_any W q p hq hby hpl)
  obtain ⟨n, hn⟩ : ∃ n, p.length = n + 1 := ⟨p.length - 1, by omega⟩
  have HN := Lib.hid hn; have HZ := Lib.hid hz; have HBY := Lib.hid hby
  have hn512 : n ≤ 511 := by omega
  clear h hby hpl h0 hz hn
  go_enter Tryd.func74, Tryd.ntmps74
  go_wp2_with fail
  refine HB.out.mono ?_
  rintro e w1 ⟨q, v1, rfl, hq, hqb, hr1, hv1, hk1⟩
  clear c0 c1
  have c1 := hr1.cell1
  obtain ⟨qa, qc, rfl⟩ := hq.formR8
  have HQ := Lib.hid hq; have HR1 := Lib.hid hr1; have HV := Lib.hid hv1; have HK := Lib.hid hk1
  clear hr1 hv1 hk1 hq hqb
  go_wp2_with fail
  refine (HMB.out w1 _ HQ.out).mono ?_
  rintro e w2 ⟨u, rfl, hu, k2⟩
  clear c1
  have HR2 := Lib.hid (HR1.out.kept k2 (fun h => h) (fun _ _ h => h))
  replace HK := Lib.hid (HK.out.trans k2 (fun _ _ h => h) (fun _ _ h => h.elim))
  obtain ⟨g, off, rfl, hc⟩ := HQ.out.at2 n (by have := HN.out; omega)
  have ck := hc w2 k2
  rw [show p.getD n 0 = 0 by have := HZ.out; rw [HN.out] at this; simpa using this] at ck
  rw [HN.out]
  have c0 := HR2.out.cell0; have c1 := HR2.out.cell1; have f0 := HR2.out.free0; have f1 := HR2.out.free1
  have hp1 : (0 : Int) < ((n + 1 : Nat) : Int) := by omega
  have hp2 : (0 : Int) < (n : Int) + 1 := by omega
  have hp3 : (0 : Int) ≤ (n : Int) := by omega
  have hp4 : (n : Int) < (n : Int) + 1 := by omega
  have hp5 : (n : Int) + 1 - 1 = (n : Int) := by omega
  have hp6 : (n : Int) ≤ 511 := by omega
  have hp7 : wrap64 (n : Int) = (n : Int) := IntWalk.wrap64_in _ (by omega)
  have HAP := Lib.hid HH.out.apart
  clear hc k2 hu
  go_wp2_with fail
  go_ret
  have hr := (HR2.out.setErr 6)
  have hrv : Reads (w2.setCell ⟨mb, 1, none⟩ (.int .i64 6)) (.slice va xs.length vc) xs := (HH.out.reads.kept HK.out (fun k hk e => HAP.out (by rw [hk, e]))).kept (Kept.setCell (fun k => k = mb) _ _ _ rfl) (fun k hk e => HAP.out (by rw [hk, e]))
  exact ⟨_, _, rfl, Or.inl ⟨rfl, rfl⟩, fun k hk => by simp [Value.ownBlock] at hk, hr.setLeft hrv HAP.out, rfl,
    (HK.out.trans (Kept.setCell (fun k => k = mb) _ _ _ rfl) (fun _ _ h => h) (fun _ _ h => h)).trans (Kept.setCell (fun k => k = mb) _ _ _ rfl) (fun _ _ h => h) (fun _ _ h => h)⟩

set_option maxRecDepth 100000 in
set_option maxHeartbeats 1600000 in
include h in
theorem mset_zero (HB : Hid (ByAns w mb v p rest 0)) (hby : ∀ b ∈ p, b < 256) (hpl : p.length ≤ 512) (h0 : p = []) :
    Calls Tryd.prog 74 #[.pointer (some ⟨mb, 0, none⟩), .int .i64 most] w fun e w' => ∃ u v', e = .returned u ∧ Ints w' u (memS (numLE p) 4096) ∧ (∀ k, u.ownBlock = some k → w.heap.size ≤ k) ∧ Rd w' mb v' rest 0 ∧ v'.ownBlock = v.ownBlock ∧ Kept (fun k => k = mb) w w' := by
  obtain ⟨va, vc, rfl⟩ := h.reads.formR8
  have c0 := h.cell0; have c1 := h.cell1
  have HH := Lib.hid h
  have HMB := Lib.hid (fun W q hq => rmemb_any W q p hq hby hpl)
  have SN : Hid (Small (numLE p)) := numLE_small p hby hpl
  obtain ⟨N, hN⟩ : ∃ N, N = numLE p := ⟨_, rfl⟩
  rw [← hN] at HMB SN
  rw [← hN]
  have HAP := Lib.hid HH.out.apart
  have hl0 : p.length = 0 := by rw [h0]; rfl
  have hN0 : (memS N 4096).length = 0 := by rw [hN, h0]; decide
  have HL0 := Lib.hid hl0; have HN0 := Lib.hid hN0
  clear hl0 hN0 hN h0
  clear h hby hpl
  go_enter Tryd.func74, Tryd.ntmps74
  go_wp2_with fail
  refine HB.out.mono ?_
  rintro e w1 ⟨q, v1, rfl, hq, hqb, hr1, hv1, hk1⟩
  clear c0 c1
  have c1 := hr1.cell1
  obtain ⟨qa, qc, rfl⟩ := hq.formR8
  have HQ := Lib.hid hq; have HR1 := Lib.hid hr1; have HV := Lib.hid hv1; have HK := Lib.hid hk1
  clear hr1 hv1 hk1 hq hqb
  go_wp2_with fail
  refine (HMB.out w1 _ HQ.out).mono ?_
  rintro e w2 ⟨u, rfl, hu, k2⟩
  clear c1
  have HR2 := Lib.hid (HR1.out.kept k2 (fun h => h) (fun _ _ h => h))
  have HUB : Hid (∀ k, u.ownBlock = some k → w.heap.size ≤ k) := fun k hk => Nat.le_trans HK.out.size (hu.lt k hk)
  replace HK := Lib.hid (HK.out.trans k2 (fun _ _ h => h) (fun _ _ h => h.elim))
  have HU := Lib.hid hu.ints
  obtain ⟨ua, uc, rfl⟩ := HU.out.form
  clear k2 hu
  rw [HL0.out]
  simp only [HN0.out] at HU HUB ⊢
  have c0 := HR2.out.cell0; have c1 := HR2.out.cell1; have f0 := HR2.out.free0; have f1 := HR2.out.free1
  go_wp2_with fail
  go_ret
  exact ⟨_, v1, rfl, HU.out, HUB.out, HR2.out, HV.out, HK.out⟩

set_option maxRecDepth 100000 in
set_option maxHeartbeats 1600000 in
include h in
theorem mset_range (HB : Hid (ByAns w mb v p rest 0)) (hby : ∀ b ∈ p, b < 256) (hpl : p.length ≤ 512) (h0 : 0 < p.length) (hz : p.getD (p.length - 1) 0 ≠ 0) (hne : numLE p ≠ 0) (RNG : most < (Nat.log2 (numLE p) : Int)) :
    Calls Tryd.prog 74 #[.pointer (some ⟨mb, 0, none⟩), .int .i64 most] w fun e w' => ∃ u v', e = .returned u ∧ Ints w' u [] ∧ (∀ k, u.ownBlock = some k → w.heap.size ≤ k) ∧ Rd w' mb v' xs 2 ∧ v'.ownBlock = v.ownBlock ∧ Kept (fun k => k = mb) w w' := by
  obtain ⟨va, vc, rfl⟩ := h.reads.formR8
  have c0 := h.cell0; have c1 := h.cell1
  have HH := Lib.hid h
  have HMB := Lib.hid (fun W q hq => rmemb_any W q p hq hby hpl)
  have SN : Hid (Small (numLE p)) := numLE_small p hby hpl
  obtain ⟨N, hN⟩ : ∃ N, N = numLE p := ⟨_, rfl⟩
  rw [← hN] at HMB SN
  rw [← hN] at hne RNG
  have HAP := Lib.hid HH.out.apart
  obtain ⟨n, hn⟩ : ∃ n, p.length = n + 1 := ⟨p.length - 1, by omega⟩
  have hNne : N ≠ 0 := hne
  have hlen : 0 < (memS N 4096).length := by
    rcases Nat.eq_zero_or_pos (memS N 4096).length with e | e
    · exact absurd ((memS_nil SN.out).1 e) hNne
    · exact e
  obtain ⟨K, hK⟩ : ∃ K, (memS N 4096).length = K + 1 := ⟨(memS N 4096).length - 1, by omega⟩
  have hlast := memS_last hNne SN.out
  rw [hK, Nat.add_sub_cancel] at hlast
  have hK4 : K ≤ 4096 := by have := memS_le N 4096; omega
  have hn5 : n ≤ 511 := by omega
  obtain ⟨y, hy⟩ : ∃ y, y = p.getD n 0 := ⟨_, rfl⟩
  have hyb : ((y : Int) == 0) = false := by
    have h5 : p.getD (p.length - 1) 0 ≠ 0 := hz
    rw [hn, Nat.add_sub_cancel, ← hy] at h5
    simpa using h5
  obtain ⟨G, hG⟩ : ∃ G, G = Nat.log2 N := ⟨_, rfl⟩
  rw [← hG] at hlast RNG
  have HN1 := Lib.hid hn; have HK1 := Lib.hid hK; have HLAST := Lib.hid hlast; have HY := Lib.hid hy
  clear hn hK hlast hy hlen hNne hne hz h0 hG hN
  clear h hby hpl
  go_enter Tryd.func74, Tryd.ntmps74
  go_wp2_with fail
  refine HB.out.mono ?_
  rintro e w1 ⟨q, v1, rfl, hq, hqb, hr1, hv1, hk1⟩
  clear c0 c1
  have c1 := hr1.cell1
  obtain ⟨qa, qc, rfl⟩ := hq.formR8
  have HQ := Lib.hid hq; have HR1 := Lib.hid hr1; have HV := Lib.hid hv1; have HK := Lib.hid hk1
  clear hr1 hv1 hk1 hq hqb
  go_wp2_with fail
  refine (HMB.out w1 _ HQ.out).mono ?_
  rintro e w2 ⟨u, rfl, hu, k2⟩
  clear c1
  have HR2 := Lib.hid (HR1.out.kept k2 (fun h => h) (fun _ _ h => h))
  have HUB : Hid (∀ k, u.ownBlock = some k → w.heap.size ≤ k) := fun k hk => Nat.le_trans HK.out.size (hu.lt k hk)
  replace HK := Lib.hid (HK.out.trans k2 (fun _ _ h => h) (fun _ _ h => h.elim))
  have HU := Lib.hid hu.ints
  obtain ⟨ua, uc, rfl⟩ := HU.out.form
  obtain ⟨g, off, rfl, hc⟩ := HQ.out.at2 n (by have := HN1.out; omega)
  have ck := hc w2 k2
  rw [← HY.out] at ck
  obtain ⟨g2, off2, rfl, cl⟩ := HU.out.at2 K (by have := HK1.out; omega)
  rw [HLAST.out] at cl
  rw [HN1.out]
  simp only [HK1.out] at HU ⊢
  obtain ⟨p1, p2, p3, p4, p5, p6, p7, p8, p9, p10⟩ : (0 : Int) < ((n + 1 : Nat) : Int) ∧ (0 : Int) < (n : Int) + 1 ∧ (0 : Int) ≤ (n : Int) ∧ (n : Int) < (n : Int) + 1 ∧ (n : Int) + 1 - 1 = (n : Int) ∧ (0 : Int) < ((K + 1 : Nat) : Int) ∧ (0 : Int) < (K : Int) + 1 ∧ (0 : Int) ≤ (K : Int) ∧ (K : Int) < (K : Int) + 1 ∧ (K : Int) + 1 - 1 = (K : Int) := ⟨by omega, by omega, by omega, by omega, by omega, by omega, by omega, by omega, by omega, by omega⟩
  have hb1 : (n : Int) ≤ 511 := by omega
  have hb2 : (K : Int) ≤ 4096 := by omega
  obtain ⟨p11, p12⟩ : wrap64 (n : Int) = (n : Int) ∧ wrap64 (K : Int) = (K : Int) := ⟨IntWalk.wrap64_in _ (by omega), IntWalk.wrap64_in _ (by omega)⟩
  clear hc k2 hu
  have c0 := HR2.out.cell0; have c1 := HR2.out.cell1; have f0 := HR2.out.free0; have f1 := HR2.out.free1
  go_wp2_with fail
  go_ret
  have hr := HR2.out.setErr 2
  have hrv : Reads (w2.setCell ⟨mb, 1, none⟩ (.int .i64 2)) (.slice va xs.length vc) xs := (HH.out.reads.kept HK.out (fun k hk e => HAP.out (by rw [hk, e]))).kept (Kept.setCell (fun k => k = mb) _ _ _ rfl) (fun k hk e => HAP.out (by rw [hk, e]))
  exact ⟨_, _, rfl, Or.inl ⟨rfl, rfl⟩, fun k hk => by simp [Value.ownBlock] at hk, hr.setLeft hrv HAP.out, rfl,
    (HK.out.trans (Kept.setCell (fun k => k = mb) _ _ _ rfl) (fun _ _ h => h) (fun _ _ h => h)).trans (Kept.setCell (fun k => k = mb) _ _ _ rfl) (fun _ _ h => h) (fun _ _ h => h)⟩

set_option maxRecDepth 100000 in
set_option maxHeartbeats 1600000 in
include h in
theorem mset_in (HB : Hid (ByAns w mb v p rest 0)) (hby : ∀ b ∈ p, b < 256) (hpl : p.length ≤ 512) (h0 : 0 < p.length) (hz : p.getD (p.length - 1) 0 ≠ 0) (hne : numLE p ≠ 0) (RNG : ¬ most < (Nat.log2 (numLE p) : Int)) :
    Calls Tryd.prog 74 #[.pointer (some ⟨mb, 0, none⟩), .int .i64 most] w fun e w' => ∃ u v', e = .returned u ∧ Ints w' u (memS (numLE p) 4096) ∧ (∀ k, u.ownBlock = some k → w.heap.size ≤ k) ∧ Rd w' mb v' rest 0 ∧ v'.ownBlock = v.ownBlock ∧ Kept (fun k => k = mb) w w' := by
  obtain ⟨va, vc, rfl⟩ := h.reads.formR8
  have c0 := h.cell0; have c1 := h.cell1
  have HH := Lib.hid h
  have HMB := Lib.hid (fun W q hq => rmemb_any W q p hq hby hpl)
  have SN : Hid (Small (numLE p)) := numLE_small p hby hpl
  obtain ⟨N, hN⟩ : ∃ N, N = numLE p := ⟨_, rfl⟩
  rw [← hN] at HMB SN
  rw [← hN] at hne RNG
  rw [← hN]
  have HAP := Lib.hid HH.out.apart
  obtain ⟨n, hn⟩ : ∃ n, p.length = n + 1 := ⟨p.length - 1, by omega⟩
  have hNne : N ≠ 0 := hne
  have hlen : 0 < (memS N 4096).length := by
    rcases Nat.eq_zero_or_pos (memS N 4096).length with e | e
    · exact absurd ((memS_nil SN.out).1 e) hNne
    · exact e
  obtain ⟨K, hK⟩ : ∃ K, (memS N 4096).length = K + 1 := ⟨(memS N 4096).length - 1, by omega⟩
  have hlast := memS_last hNne SN.out
  rw [hK, Nat.add_sub_cancel] at hlast
  have hK4 : K ≤ 4096 := by have := memS_le N 4096; omega
  have hn5 : n ≤ 511 := by omega
  obtain ⟨y, hy⟩ : ∃ y, y = p.getD n 0 := ⟨_, rfl⟩
  have hyb : ((y : Int) == 0) = false := by
    have h5 : p.getD (p.length - 1) 0 ≠ 0 := hz
    rw [hn, Nat.add_sub_cancel, ← hy] at h5
    simpa using h5
  obtain ⟨G, hG⟩ : ∃ G, G = Nat.log2 N := ⟨_, rfl⟩
  rw [← hG] at hlast RNG
  have HN1 := Lib.hid hn; have HK1 := Lib.hid hK; have HLAST := Lib.hid hlast; have HY := Lib.hid hy
  clear hn hK hlast hy hlen hNne hne hz h0 hG
  clear h hby hpl
  go_enter Tryd.func74, Tryd.ntmps74
  go_wp2_with fail
  refine HB.out.mono ?_
  rintro e w1 ⟨q, v1, rfl, hq, hqb, hr1, hv1, hk1⟩
  clear c0 c1
  have c1 := hr1.cell1
  obtain ⟨qa, qc, rfl⟩ := hq.formR8
  have HQ := Lib.hid hq; have HR1 := Lib.hid hr1; have HV := Lib.hid hv1; have HK := Lib.hid hk1
  clear hr1 hv1 hk1 hq hqb
  go_wp2_with fail
  refine (HMB.out w1 _ HQ.out).mono ?_
  rintro e w2 ⟨u, rfl, hu, k2⟩
  clear c1
  have HR2 := Lib.hid (HR1.out.kept k2 (fun h => h) (fun _ _ h => h))
  have HUB : Hid (∀ k, u.ownBlock = some k → w.heap.size ≤ k) := fun k hk => Nat.le_trans HK.out.size (hu.lt k hk)
  replace HK := Lib.hid (HK.out.trans k2 (fun _ _ h => h) (fun _ _ h => h.elim))
  have HU := Lib.hid hu.ints
  obtain ⟨ua, uc, rfl⟩ := HU.out.form
  obtain ⟨g, off, rfl, hc⟩ := HQ.out.at2 n (by have := HN1.out; omega)
  have ck := hc w2 k2
  rw [← HY.out] at ck
  obtain ⟨g2, off2, rfl, cl⟩ := HU.out.at2 K (by have := HK1.out; omega)
  rw [HLAST.out] at cl
  rw [HN1.out]
  simp only [HK1.out] at HU ⊢
  obtain ⟨p1, p2, p3, p4, p5, p6, p7, p8, p9, p10⟩ : (0 : Int) < ((n + 1 : Nat) : Int) ∧ (0 : Int) < (n : Int) + 1 ∧ (0 : Int) ≤ (n : Int) ∧ (n : Int) < (n : Int) + 1 ∧ (n : Int) + 1 - 1 = (n : Int) ∧ (0 : Int) < ((K + 1 : Nat) : Int) ∧ (0 : Int) < (K : Int) + 1 ∧ (0 : Int) ≤ (K : Int) ∧ (K : Int) < (K : Int) + 1 ∧ (K : Int) + 1 - 1 = (K : Int) := ⟨by omega, by omega, by omega, by omega, by omega, by omega, by omega, by omega, by omega, by omega⟩
  have hb1 : (n : Int) ≤ 511 := by omega
  have hb2 : (K : Int) ≤ 4096 := by omega
  obtain ⟨p11, p12⟩ : wrap64 (n : Int) = (n : Int) ∧ wrap64 (K : Int) = (K : Int) := ⟨IntWalk.wrap64_in _ (by omega), IntWalk.wrap64_in _ (by omega)⟩
  clear hc k2 hu
  have c0 := HR2.out.cell0; have c1 := HR2.out.cell1; have f0 := HR2.out.free0; have f1 := HR2.out.free1
  go_wp2_with fail
  go_ret
  exact ⟨_, v1, rfl, HU.out, HUB.out, HR2.out, HV.out, HK.out⟩
end

theorem numLE_ne (p : List Nat) (hb : ∀ b ∈ p, b < 256) (h0 : 0 < p.length) (hz : p.getD (p.length - 1) 0 ≠ 0) : numLE p ≠ 0 := by
  intro e
  obtain ⟨n, hn⟩ : ∃ n, p.length = n + 1 := ⟨p.length - 1, by omega⟩
  rw [hn, Nat.add_sub_cancel] at hz
  have hlt : p.getD n 0 < 256 := by
    rw [List.getD_eq_getElem?_getD, List.getElem?_eq_getElem (by omega)]
    exact hb _ (List.getElem_mem _)
  have hex : ∃ k, k < 8 ∧ p.getD n 0 / 2 ^ k % 2 = 1 := by
    generalize p.getD n 0 = y at hz hlt
    refine ⟨Nat.log2 y, ?_, ?_⟩
    · exact (Nat.log2_lt hz).2 hlt
    · have h := Nat.testBit_log2 hz
      rw [Nat.testBit_eq_decide_div_mod_eq] at h
      simpa using h
  obtain ⟨k, hk, hy⟩ := hex
  have := numLE_testBit p hb n k (by omega) hk
  rw [e, Nat.zero_testBit, hy] at this
  simp at this

theorem mset_any (w : World) (mb : Nat) (v : Value) (xs : List Nat) (err most : Int) (h : Rd w mb v xs err) (hby : ∀ b ∈ xs, b < 256) (hl : xs.length ≤ 1000000) :
    Calls Tryd.prog 74 #[.pointer (some ⟨mb, 0, none⟩), .int .i64 most] w fun e w' => ∃ u v', e = .returned u ∧ Ints w' u (memS (setS xs most err).1 4096) ∧ (∀ k, u.ownBlock = some k → w.heap.size ≤ k) ∧ Rd w' mb v' (setS xs most err).2.1 (setS xs most err).2.2 ∧ v'.ownBlock = v.ownBlock ∧ Kept (fun k => k = mb) w w' := by
  by_cases he : err = 0
  · subst he
    obtain ⟨⟨p, rest, e2⟩, hP⟩ : ∃ P, P = pieceS xs 512 0 := ⟨_, rfl⟩
    have hpb := pieceS_byte 512 0 hby
    have hlen := pieceS_len xs 512 0
    have herr := pieceS_err xs 512 0
    have hb := mbytes_any w mb v xs 0 512 (by decide) h hby (by
      by_cases h0 : (pieceS xs 512 0).2.2 = 0
      · have := hlen h0; omega
      · rw [(herr h0).1]; simp)
    have hS : setS xs most 0 = if e2 ≠ 0 then (0, xs, e2) else if BadSet p then (0, xs, 6) else if numLE p ≠ 0 ∧ most < (Nat.log2 (numLE p) : Int) then (0, xs, 2) else (numLE p, rest, 0) := by
      unfold setS; rw [if_neg (by simp), ← hP]
    rw [← hP] at hpb hlen herr hb
    simp only at hpb hlen herr hb
    by_cases h2 : e2 = 0
    · subst h2
      have hpl : p.length ≤ 512 := by have := hlen rfl; omega
      rw [if_neg (by simp)] at hS
      by_cases hbad : BadSet p
      · rw [hS, if_pos hbad]
        obtain ⟨q1, q2⟩ := hbad.resolve_left (by omega)
        have := mset_last w mb v xs p rest most h hb hpb.1 hpl q1 q2
        rw [memS_zero]; exact this
      · rw [if_neg hbad] at hS
        by_cases h0 : p = []
        · have hn0 : numLE p = 0 := by rw [h0]; rfl
          rw [hS, if_neg (fun hh => hh.1 hn0)]
          exact mset_zero w mb v xs p rest most h hb hpb.1 hpl h0
        · have hp0 : 0 < p.length := List.length_pos_iff.2 h0
          have hz : p.getD (p.length - 1) 0 ≠ 0 := fun e => hbad (Or.inr ⟨hp0, e⟩)
          have hne : numLE p ≠ 0 := numLE_ne p hpb.1 hp0 hz
          by_cases hr : most < (Nat.log2 (numLE p) : Int)
          · rw [hS, if_pos ⟨hne, hr⟩, memS_zero]
            exact mset_range w mb v xs p rest most h hb hpb.1 hpl hp0 hz hne hr
          · rw [hS, if_neg (fun hh => hr hh.2)]
            exact mset_in w mb v xs p rest most h hb hpb.1 hpl hp0 hz hne hr
    · obtain ⟨rfl, rfl⟩ := herr h2
      rw [hS, if_pos h2, memS_zero]
      exact mset_no w mb v rest [] most h e2 hb (by simpa using h2) (by simpa using h2)
  · rw [show setS xs most err = (0, xs, err) from if_pos he, memS_zero]
    refine (mset_bad w mb most err h.cell1 (by simpa using he) (by simpa using he)).mono ?_
    rintro e w' ⟨rfl, rfl⟩
    exact ⟨_, v, rfl, Or.inl ⟨rfl, rfl⟩, fun k hk => by simp [Value.ownBlock] at hk, h, rfl, Kept.refl _ _⟩
end Go.Proofs.YtnmcihfegbdipaaDoor
