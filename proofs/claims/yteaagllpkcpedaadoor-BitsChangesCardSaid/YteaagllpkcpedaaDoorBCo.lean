/-
  bits.Set.Compare.
-/
import Derived.Test.YteaagllpkcpedaaDoorBCm
namespace Go.Proofs.YteaagllpkcpedaaDoor
open Go.RowKit

/-- What Compare answers of sets whose least difference is d. -/
def cmpAt (M K d : Nat) : Int := if K.testBit d = true then (if M = 0 ∨ Nat.log2 M < d then -1 else 1) else (if K = 0 ∨ Nat.log2 K < d then 1 else -1)
/-- What it answers of two sets. -/
def CmpIs (M K : Nat) (r : Int) : Prop := (M = K ∧ r = 0) ∨ ∃ d, LD M K d ∧ r = cmpAt M K d

theorem great_at (w : World) (v : Value) (M : Nat) (h : SetV w v M) (hs : Small M) (T : Bool) (g : Nat) (h0 : (M = 0 ∧ T = false ∧ g = 0) ∨ (M ≠ 0 ∧ T = true ∧ g = Nat.log2 M)) :
    Calls Tryd.prog 47 #[v] w fun e w' => e = .returned (.tuple #[.int .i64 g, .bool T]) ∧ Kept (fun _ => False) w w' := by
  have := greatest_any w v M h hs
  rcases h0 with ⟨h1, h2, h3⟩ | ⟨h1, h2, h3⟩
  · rw [if_pos h1, show decide (M ≠ 0) = false by simp [h1]] at this
    rw [h2, h3]; exact this
  · rw [if_neg h1, show decide (M ≠ 0) = true by simp [h1]] at this
    rw [h2, h3]; exact this

theorem SetV.onC {a b : World} {v : Value} {M : Nat} (h : SetV a v M) (hk : Kept (fun _ => False) a b) : SetV b v M := by
  obtain ⟨hv, hs, e, hw, hc, hn⟩ := h.ex
  exact ⟨⟨hv, hs, e, hw.kept hk (fun _ _ h => h), hc, hn⟩⟩

set_option maxRecDepth 100000 in
set_option maxHeartbeats 3200000 in
theorem compare_any (w : World) (v u : Value) (M K : Nat) (hv : SetV w v M) (hu : SetV w u K) (hS : Small M) (hS2 : Small K) (hT : Tz w) :
    Calls Tryd.prog 22 #[v, u] w fun e w' => (∃ r, CmpIs M K r ∧ e = .returned (.int .i64 r)) ∧ Kept (fun _ => False) w w' := by
  have hv0 := hv; have hu0 := hu
  obtain ⟨x, hs, rfl, hw, hc, _⟩ := hv.ex
  obtain ⟨y, ks, rfl, hw2, hc2, _⟩ := hu.ex
  obtain ⟨a1, c1, rfl⟩ := hw.form
  obtain ⟨a2, c2, rfl⟩ := hw2.form
  have HLD := Lib.hid (fun (W : World) (k : Kept (fun _ => False) w W) => ld_at W M K _ _ _ _ a1 a2 c1 c2 hs ks rfl rfl rfl rfl (hw.kept k (fun _ _ h => h)) hc (hc.small hS) (hw2.kept k (fun _ _ h => h)) hc2 (hc2.small hS2) (hT.kept k (fun h => h)))
  have HV := Lib.hid hv0; have HU := Lib.hid hu0
  clear hv hu hv0 hu0 hw hc hw2 hc2
  generalize hs.length = n at *
  generalize ks.length = m at *
  obtain ⟨lo1, hl1⟩ : ∃ l, l = M % 2 ^ 64 := ⟨_, rfl⟩
  obtain ⟨lo2, hl2⟩ : ∃ l, l = K % 2 ^ 64 := ⟨_, rfl⟩
  rw [← hl1] at HLD HV ⊢
  rw [← hl2] at HLD HU ⊢
  clear hl1 hl2
  obtain ⟨wA, hwA⟩ : ∃ wA, wA = (w.alloc (.cells #[.int .u64 lo1, .slice a1 n c1] 28)).alloc (.cells #[.int .u64 lo2, .slice a2 m c2] 28) := ⟨_, rfl⟩
  have hkA : Kept (fun _ => False) w wA := by rw [hwA]; exact (Kept.alloc _ _ _).then (Kept.alloc _ _ _)
  have hbx : ∀ W, Kept (fun _ => False) wA W → W.cell? ⟨w.heap.size, 0, none⟩ = some (.int .u64 (lo1 : Int)) ∧ W.cell? ⟨w.heap.size, 1, none⟩ = some (.slice a1 n c1) ∧ W.cell? ⟨w.heap.size + 1, 0, none⟩ = some (.int .u64 (lo2 : Int)) ∧ W.cell? ⟨w.heap.size + 1, 1, none⟩ = some (.slice a2 m c2) ∧ w.heap.size + 1 < W.heap.size := fun W hk => by
    have hsz : wA.heap.size = w.heap.size + 2 := by rw [hwA]; simp
    have := hk.size
    refine ⟨(hk.cell (p := ⟨w.heap.size, 0, none⟩) (by simp; omega) (fun h => h)).trans (by rw [hwA]; go_simp), (hk.cell (p := ⟨w.heap.size, 1, none⟩) (by simp; omega) (fun h => h)).trans (by rw [hwA]; go_simp), (hk.cell (p := ⟨w.heap.size + 1, 0, none⟩) (by simp; omega) (fun h => h)).trans (by rw [hwA]; go_simp), (hk.cell (p := ⟨w.heap.size + 1, 1, none⟩) (by simp; omega) (fun h => h)).trans (by rw [hwA]; go_simp), by omega⟩
  have HBX := Lib.hid hbx; have HKA := Lib.hid hkA; have HWA := Lib.hid hwA; have HS := Lib.hid hS; have HS2 := Lib.hid hS2
  clear hbx hkA hwA hS hS2 hT
  go_enter Tryd.func22, Tryd.ntmps22
  go_wp2_with fail
  rw [← HWA.out]
  refine (HLD.out _ HKA.out).mono ?_
  rintro e w1 ⟨(⟨hMK, rfl⟩ | ⟨d, hld, rfl⟩), k1⟩
  · have HR : Hid (CmpIs M K 0) := Or.inl ⟨hMK, rfl⟩
    have K1 := Lib.hid (HKA.out.then k1)
    clear hMK k1
    go_wp2_with fail
    go_ret
    exact ⟨⟨0, HR.out, rfl⟩, K1.out⟩
  · have hd := ld_small hld HS.out HS2.out
    have K1 := Lib.hid k1
    obtain ⟨b0, b1, b2, b3, b4⟩ := HBX.out w1 k1
    have HLDD := Lib.hid hld
    have KB := Lib.hid (Kept.alloc (fun _ => False) w1 (.cells #[.int .u64 lo2, .slice a2 m c2] 28))
    clear k1 hld
    have hne1 : ¬ w1.heap.size = w.heap.size := by omega
    have hne2 : ¬ w1.heap.size = w.heap.size + 1 := by omega
    have hne3 : ¬ w.heap.size = w1.heap.size := by omega
    have hne4 : ¬ w.heap.size + 1 = w1.heap.size := by omega
    obtain ⟨W2, hW2⟩ : ∃ W, W = (w1.alloc (.cells #[.int .u64 lo2, .slice a2 m c2] 28)).drew := ⟨_, rfl⟩
    have k12 : Kept (fun _ => False) w1 W2 := by rw [hW2]; exact KB.out.drew
    have e0 : W2.cell? ⟨w1.heap.size, 0, none⟩ = some (.int .u64 (lo2 : Int)) := by rw [hW2]; go_simp
    have e1 : W2.cell? ⟨w1.heap.size, 1, none⟩ = some (.slice a2 m c2) := by rw [hW2]; go_simp
    have e2 : W2.frozen? ⟨w1.heap.size, 0, none⟩ = false := by rw [hW2]; go_simp
    have e3 : W2.frozen? ⟨w1.heap.size, 1, none⟩ = false := by rw [hW2]; go_simp
    have lt2 : w1.heap.size < W2.heap.size := World.block_lt_of_cell? W2 _ e0
    have HW2 := Lib.hid hW2; have K12 := Lib.hid k12
    have E0 := Lib.hid e0; have E1 := Lib.hid e1; have E2 := Lib.hid e2; have E3 := Lib.hid e3
    have HLG : ∀ T : Bool, ∃ T2 g, ((if T = true then M else K) = 0 ∧ T2 = false ∧ g = 0) ∨ ((if T = true then M else K) ≠ 0 ∧ T2 = true ∧ g = Nat.log2 (if T = true then M else K)) := fun T => by
      by_cases h : (if T = true then M else K) = 0
      · exact ⟨false, 0, Or.inl ⟨h, rfl, rfl⟩⟩
      · exact ⟨true, _, Or.inr ⟨h, rfl, rfl⟩⟩
    clear hW2 k12 e0 e1 e2 e3
    cases hkb : K.testBit d with
    | true =>
      obtain ⟨T2, g, hg⟩ := HLG true
      rw [if_pos rfl] at hg
      have HG := Lib.hid (fun (W : World) (k : Kept (fun _ => False) w W) => great_at W _ M (HV.out.onC k) HS.out T2 g hg)
      have HHAS := Lib.hid (fun (W : World) (k : Kept (fun _ => False) w W) => has_any W _ K d (HU.out.onC k) hd)
      rw [hkb] at HHAS
      have hcs : (T2 = false ∧ cmpAt M K d = -1) ∨ (T2 = true ∧ g < d ∧ cmpAt M K d = -1) ∨ (T2 = true ∧ d ≤ g ∧ cmpAt M K d = 1) := by
        unfold cmpAt
        rw [if_pos hkb]
        rcases hg with ⟨h1, h2, h3⟩ | ⟨h1, h2, h3⟩
        · exact Or.inl ⟨h2, if_pos (Or.inl h1)⟩
        · by_cases hlt : g < d
          · exact Or.inr (Or.inl ⟨h2, hlt, if_pos (Or.inr (by omega))⟩)
          · exact Or.inr (Or.inr ⟨h2, by omega, if_neg (by omega)⟩)
      clear hkb hg HLG
      go_wp2_with fail
      go_region
      rw [← HW2.out]
      obtain ⟨b0, b1, b2, b3, b4⟩ := HBX.out W2 (K1.out.then K12.out)
      go_wp2_with fail
      refine (HHAS.out W2 (HKA.out.then (K1.out.then K12.out))).mono ?_
      rintro e w3 ⟨rfl, k3⟩
      obtain ⟨b0, b1, b2, b3, b4⟩ := HBX.out w3 ((K1.out.then K12.out).then k3)
      have e0 := (k3.cell (p := ⟨w1.heap.size, 0, none⟩) lt2 (fun h => h)).trans E0.out
      have e1 := (k3.cell (p := ⟨w1.heap.size, 1, none⟩) lt2 (fun h => h)).trans E1.out
      have e2 := (k3.frozen (p := ⟨w1.heap.size, 0, none⟩) lt2 (fun h => h)).trans E2.out
      have e3 := (k3.frozen (p := ⟨w1.heap.size, 1, none⟩) lt2 (fun h => h)).trans E3.out
      have K3 := Lib.hid ((K1.out.then K12.out).then k3)
      clear k3
      go_wp2_with fail
      go_region
      obtain ⟨W4, hW4⟩ : ∃ W, W = ((w3.setCell ⟨w1.heap.size, 0, none⟩ (.int .u64 lo1)).setCell ⟨w1.heap.size, 1, none⟩ (.slice a1 n c1)).drew := ⟨_, rfl⟩
      have k34 : Kept (fun k => k = w1.heap.size) w3 W4 := by rw [hW4]; exact ((Kept.setCell (fun k => k = w1.heap.size) _ ⟨w1.heap.size, 0, none⟩ _ rfl).trans (Kept.setCell (fun k => k = w1.heap.size) _ ⟨w1.heap.size, 1, none⟩ _ rfl) (fun _ _ h => h) (fun _ _ h => h)).drew
      have K4 : Hid (Kept (fun _ => False) w W4) := (HKA.out.then K3.out).trans k34 (fun _ _ h => h) (fun i hi h => by have := K1.out.size; have := HKA.out.size; omega)
      have g0 : W4.cell? ⟨w1.heap.size, 0, none⟩ = some (.int .u64 (lo1 : Int)) := by rw [hW4]; go_simp
      have g1 : W4.cell? ⟨w1.heap.size, 1, none⟩ = some (.slice a1 n c1) := by rw [hW4]; go_simp
      rw [← hW4]
      clear hW4 k34 e0 e1 e2 e3 b0 b1 b2 b3 b4
      go_wp2_with fail
      refine (HG.out _ K4.out).mono ?_
      rintro e w5 ⟨rfl, k5⟩
      have K5 := Lib.hid ((K4.out).then k5)
      clear k5
      rcases hcs with ⟨rfl, hcm⟩ | ⟨rfl, h1, hcm⟩ | ⟨rfl, h1, hcm⟩
      all_goals
        have HR : Hid (CmpIs M K _) := Or.inr ⟨d, HLDD.out, hcm.symm⟩
        clear hcm
        go_wp2_with fail
        go_ret
        exact ⟨⟨_, HR.out, rfl⟩, K5.out⟩
    | false =>
      obtain ⟨T2, g, hg⟩ := HLG false
      rw [if_neg (by decide)] at hg
      have HG := Lib.hid (fun (W : World) (k : Kept (fun _ => False) w W) => great_at W _ K (HU.out.onC k) HS2.out T2 g hg)
      have HHAS := Lib.hid (fun (W : World) (k : Kept (fun _ => False) w W) => has_any W _ K d (HU.out.onC k) hd)
      rw [hkb] at HHAS
      have hcs : (T2 = false ∧ cmpAt M K d = 1) ∨ (T2 = true ∧ g < d ∧ cmpAt M K d = 1) ∨ (T2 = true ∧ d ≤ g ∧ cmpAt M K d = -1) := by
        unfold cmpAt
        rw [if_neg (by rw [hkb]; decide)]
        rcases hg with ⟨h1, h2, h3⟩ | ⟨h1, h2, h3⟩
        · exact Or.inl ⟨h2, if_pos (Or.inl h1)⟩
        · by_cases hlt : g < d
          · exact Or.inr (Or.inl ⟨h2, hlt, if_pos (Or.inr (by omega))⟩)
          · exact Or.inr (Or.inr ⟨h2, by omega, if_neg (by omega)⟩)
      clear hkb hg HLG
      go_wp2_with fail
      go_region
      rw [← HW2.out]
      obtain ⟨b0, b1, b2, b3, b4⟩ := HBX.out W2 (K1.out.then K12.out)
      go_wp2_with fail
      refine (HHAS.out W2 (HKA.out.then (K1.out.then K12.out))).mono ?_
      rintro e w3 ⟨rfl, k3⟩
      have e0 := (k3.cell (p := ⟨w1.heap.size, 0, none⟩) lt2 (fun h => h)).trans E0.out
      have e1 := (k3.cell (p := ⟨w1.heap.size, 1, none⟩) lt2 (fun h => h)).trans E1.out
      have K3 := Lib.hid (HKA.out.then ((K1.out.then K12.out).then k3))
      clear k3 b0 b1 b2 b3 b4
      go_wp2_with fail
      refine (HG.out _ K3.out).mono ?_
      rintro e w5 ⟨rfl, k5⟩
      have K5 := Lib.hid ((K3.out).then k5)
      clear k5
      rcases hcs with ⟨rfl, hcm⟩ | ⟨rfl, h1, hcm⟩ | ⟨rfl, h1, hcm⟩
      all_goals
        have HR : Hid (CmpIs M K _) := Or.inr ⟨d, HLDD.out, hcm.symm⟩
        clear hcm
        go_wp2_with fail
        go_ret
        exact ⟨⟨_, HR.out, rfl⟩, K5.out⟩
end Go.Proofs.YteaagllpkcpedaaDoor
