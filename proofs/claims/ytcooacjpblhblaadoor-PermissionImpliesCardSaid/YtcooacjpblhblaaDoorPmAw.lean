/-
  arbaclaw11.awake returns true.
-/
import Derived.Test.YtcooacjpblhblaaDoorPmN
import Derived.Test.YtcooacjpblhblaaDoorPmT
import Derived.Deep.RegionHeld3
namespace Go.Proofs.YtcooacjpblhblaaDoor
open Go.RowKit
set_option linter.unusedSimpArgs false
set_option linter.unusedVariables false

def sRead : ByteArray := ⟨#[114, 101, 97, 100]⟩
def sWrite : ByteArray := ⟨#[119, 114, 105, 116, 101]⟩
def pA : ByteArray := ⟨#[47, 97]⟩
def pAB : ByteArray := ⟨#[47, 97, 47, 98]⟩
def pab : ByteArray := ⟨#[47, 97, 98]⟩
def pC : ByteArray := ⟨#[47, 99]⟩
def awL : List Per := [⟨sRead, pAB, false⟩, ⟨sRead, pA, true⟩, ⟨sWrite, pC, false⟩, ⟨sRead, pAB, true⟩]
def awN : List Per := [⟨sRead, pA, true⟩, ⟨sWrite, pC, false⟩]
theorem awN_sorted : SortQ awN := by
  refine ⟨?_, ?_⟩ <;> decide +kernel
theorem awN_norm : NormS awL awN := by
  refine ⟨awN_sorted, fun x => ?_⟩
  by_cases h : x ∈ awL
  · have hall : ∀ y ∈ awL, (y ∈ awN ↔ okP y = true ∧ excP awL y = false) := by decide +kernel
    rw [hall x h]
    exact ⟨fun e => ⟨h, e⟩, fun e => e.2⟩
  · refine ⟨fun e => absurd ?_ h, fun e => absurd e.1 h⟩
    have hall : ∀ y ∈ awN, y ∈ awL := by decide +kernel
    exact hall x e
theorem awL_small : bdQ awL := by
  have hall : ∀ y ∈ awL, y.a.size ≤ 1000000 ∧ y.p.size ≤ 100000 := by decide +kernel
  exact hall
theorem aw_cov1 : covP ⟨sRead, pA, true⟩ sRead pAB = true := by decide +kernel
theorem aw_cov2 : covP ⟨sRead, pA, true⟩ sRead pab = false := by decide +kernel
theorem aw_txt : txtP ⟨sRead, pA, true⟩ = ⟨#[114, 101, 97, 100, 32, 47, 97, 47, 42]⟩ := by decide +kernel

theorem pers_new (w : World) (cs : Array Value) (T : TypeId) (n : Nat) (l : List Per) (hn : n = l.length) (hcs : cs.toList = flatQ l) (hm : n ≤ maxLen) : Pers (w.alloc (.cells cs T)) (.slice (some ⟨w.heap.size, 0, none⟩) n n) l := by
  subst hn
  refine Or.inr ⟨w.heap.size, 0, l.length, rfl, Nat.le_refl _, hm, by simp, fun i hi => ?_⟩
  obtain ⟨a0, a1, a2⟩ := flatQ_at l i hi
  have hc : ∀ j, (w.alloc (.cells cs T)).cell? ⟨w.heap.size, j, none⟩ = (flatQ l)[j]? := fun j => by
    rw [← hcs]
    unfold World.cell?
    rw [heap_alloc_new]
    simp
  rw [Nat.zero_add]
  exact ⟨(hc _).trans a0, (hc _).trans a1, (hc _).trans a2⟩

set_option maxRecDepth 100000 in
set_option maxHeartbeats 3200000 in
theorem awake11_any (w : World) : Calls Tryd.prog 9 #[] w fun e w' => e = .returned (.bool true) ∧ Kept (fun _ => False) w w' := by
  obtain ⟨W1, hW1⟩ : ∃ W1, W1 = w.alloc (.cells #[.string sRead, .string pA, .bool true] 27) := ⟨_, rfl⟩
  obtain ⟨cs, hcs⟩ : ∃ cs : Array Value, cs = #[.string sRead, .string pAB, .bool false, .string sRead, .string pA, .bool true, .string sWrite, .string pC, .bool false, .string sRead, .string pAB, .bool true] := ⟨_, rfl⟩
  have hsz : W1.heap.size = w.heap.size + 1 := by rw [hW1]; simp
  have hP := pers_new W1 cs 27 4 awL rfl (by rw [hcs]; rfl) (by unfold maxLen; omega)
  have hB := (Bx.new w sRead pA true 27)
  rw [← hW1] at hB
  have hB2 := hB.stay (Kept.alloc (fun _ => False) W1 (.cells cs 27))
  have hK : Kept (fun _ => False) w (W1.alloc (.cells cs 27)) := by rw [hW1]; exact (Kept.alloc _ _ _).then (Kept.alloc _ _ _)
  rw [hsz] at hP
  have HC1 : Hid (∀ W, Calls Tryd.prog 15 #[.agg #[.string sRead, .string pA, .bool true], .string sRead, .string pAB] W fun e w' => e = .returned (.bool true) ∧ Kept (fun _ => False) W w') := fun W => by
    have := pcov_any ⟨sRead, pA, true⟩ sRead pAB (by decide) (by decide) W
    rw [aw_cov1] at this; exact this
  have HC2 : Hid (∀ W, Calls Tryd.prog 15 #[.agg #[.string sRead, .string pA, .bool true], .string sRead, .string pab] W fun e w' => e = .returned (.bool false) ∧ Kept (fun _ => False) W w') := fun W => by
    have := pcov_any ⟨sRead, pA, true⟩ sRead pab (by decide) (by decide) W
    rw [aw_cov2] at this; exact this
  have HTX : Hid (∀ W, Calls Tryd.prog 21 #[.agg #[.string sRead, .string pA, .bool true]] W fun e w' => e = .returned (.string ⟨#[114, 101, 97, 100, 32, 47, 97, 47, 42]⟩) ∧ Kept (fun _ => False) W w') := fun W => by
    have := ptext_any ⟨sRead, pA, true⟩ (by decide) W
    rw [aw_txt] at this; exact this
  have HP := Lib.hid hP; have HB := Lib.hid hB2; have HK := Lib.hid hK
  have HN := Lib.hid (fun W (h : Pers W (.slice (some ⟨w.heap.size + 1, 0, none⟩) 4 4) awL) => normal_any W _ awL h awL_small (by decide))
  clear hP hB hB2 hK hsz
  subst hW1 hcs
  unfold sRead sWrite pA pAB pab pC at *
  go_enter Tryd.func9, Tryd.ntmps9
  go_wp2_with fail
  refine (HN.out _ HP.out).mono ?_
  rintro e w4 ⟨v4, r, rfl, hr⟩
  obtain rfl := hr.norm.unique awN_norm
  have P4 := HP.out.kept hr.kept (fun _ _ h => h)
  have B4 := HB.out.stay hr.kept
  have K4 := Lib.hid (HK.out.then hr.kept)
  have N4 := hr.own.pers
  obtain ⟨g, off, cap, rfl, hc1, hc2, hg, hn⟩ : ∃ g off cap, v4 = .slice (some ⟨g, off, none⟩) 2 cap ∧ 2 ≤ cap ∧ cap ≤ maxLen ∧ g < w4.heap.size ∧ ∀ i, i < awN.length → PerAt w4 g (off + i * 3) (awN.getD i per0) := by
    rcases N4 with ⟨_, h⟩ | ⟨g, off, cap, h, h1, h2, h3, h4⟩
    · cases h
    · exact ⟨g, off, cap, h, h1, h2, h3, h4⟩
  obtain ⟨n0, n1, n2⟩ := hn 0 (by decide)
  obtain ⟨n3, n4, n5⟩ := hn 1 (by decide)
  obtain ⟨q0, q1, q2⟩ : PerAt w4 (w.heap.size + 1) (0 + 2 * 3) (awL.getD 2 per0) := by
    rcases P4 with ⟨h, _⟩ | ⟨g', off', cap', h, _, _, _, h4⟩
    · cases h
    · cases h; exact h4 2 (by decide)
  obtain ⟨b0, b1, b2⟩ := B4
  have hS : ∀ W, Kept (fun _ => False) w4 W → (W.cell? ⟨w.heap.size, 0, none⟩ = some (.string ⟨#[114, 101, 97, 100]⟩) ∧ W.cell? ⟨w.heap.size, 1, none⟩ = some (.string ⟨#[47, 97]⟩) ∧ W.cell? ⟨w.heap.size, 2, none⟩ = some (.bool true)) ∧
      (W.cell? ⟨g, off, none⟩ = some (.string ⟨#[114, 101, 97, 100]⟩) ∧ W.cell? ⟨g, off + 1, none⟩ = some (.string ⟨#[47, 97]⟩) ∧ W.cell? ⟨g, off + 2, none⟩ = some (.bool true)) ∧
      (W.cell? ⟨g, off + 3, none⟩ = some (.string ⟨#[119, 114, 105, 116, 101]⟩) ∧ W.cell? ⟨g, off + 4, none⟩ = some (.string ⟨#[47, 99]⟩) ∧ W.cell? ⟨g, off + 5, none⟩ = some (.bool false)) ∧
      W.cell? ⟨w.heap.size + 1, 6, none⟩ = some (.string ⟨#[119, 114, 105, 116, 101]⟩) ∧ W.cell? ⟨w.heap.size + 1, 7, none⟩ = some (.string ⟨#[47, 99]⟩) ∧ W.cell? ⟨w.heap.size + 1, 8, none⟩ = some (.bool false) := fun W hk => by
    have f : ∀ {p : Addr} {v : Value}, w4.cell? p = some v → W.cell? p = some v := fun {p v} h => (hk.cell (World.block_lt_of_cell? w4 _ h) (fun h => h)).trans h
    exact ⟨⟨f b0, f b1, f b2⟩, ⟨f n0, f n1, f n2⟩, ⟨f n3, f n4, f n5⟩, f q0, f q1, f q2⟩
  have HS := Lib.hid hS
  obtain ⟨⟨b0, b1, b2⟩, ⟨n0, n1, n2⟩, ⟨n3, n4, n5⟩, q0, q1, q2⟩ := hS w4 (Kept.refl _ _)
  clear HN HP HB HK hr N4 P4 hS
  unfold maxLen at hc2
  generalize w.heap.size = Q at *
  go_wp2_with fail
  go_region_held3 (fun W => (W.cell? ⟨Q, 0, none⟩ = some (.string ⟨#[114, 101, 97, 100]⟩) ∧ W.cell? ⟨Q, 1, none⟩ = some (.string ⟨#[47, 97]⟩) ∧ W.cell? ⟨Q, 2, none⟩ = some (.bool true)) ∧
      (W.cell? ⟨g, off, none⟩ = some (.string ⟨#[114, 101, 97, 100]⟩) ∧ W.cell? ⟨g, off + 1, none⟩ = some (.string ⟨#[47, 97]⟩) ∧ W.cell? ⟨g, off + 2, none⟩ = some (.bool true)) ∧
      (W.cell? ⟨g, off + 3, none⟩ = some (.string ⟨#[119, 114, 105, 116, 101]⟩) ∧ W.cell? ⟨g, off + 4, none⟩ = some (.string ⟨#[47, 99]⟩) ∧ W.cell? ⟨g, off + 5, none⟩ = some (.bool false)) ∧
      W.cell? ⟨Q + 1, 6, none⟩ = some (.string ⟨#[119, 114, 105, 116, 101]⟩) ∧ W.cell? ⟨Q + 1, 7, none⟩ = some (.string ⟨#[47, 99]⟩) ∧ W.cell? ⟨Q + 1, 8, none⟩ = some (.bool false))
    (first | exact HS.out _ KC.out | exact HS.out _ (Kept.refl _ _) | exact HS.out _ (Kept.refl _ _).drew)
    ((first | (go_at_call 15; with_reducible refine (HC1.out _).mono ?_; rintro e q1 ⟨rfl, j1⟩; have KC := Lib.hid (Kept.then (show Kept (fun _ => False) w4 _ from (by first | exact KC.out | exact Kept.refl _ _ | exact (Kept.refl _ _).drew)) j1); clear j1) | (go_at_call 15; with_reducible refine (HC2.out _).mono ?_; rintro e q1 ⟨rfl, j1⟩; have KD := Lib.hid (Kept.then (show Kept (fun _ => False) w4 _ from (by first | exact KC.out | exact Kept.refl _ _ | exact (Kept.refl _ _).drew)) j1); clear KC; have KC := KD; clear KD; clear j1) | (go_at_call 21; with_reducible refine (HTX.out _).mono ?_; rintro e q1 ⟨rfl, j1⟩; have KD := Lib.hid (Kept.then (show Kept (fun _ => False) w4 _ from (by first | exact KC.out | exact Kept.refl _ _ | exact (Kept.refl _ _).drew)) j1); clear KC; have KC := KD; clear KD; clear j1)))
  have HEnd := Lib.hid (K4.out.then KC.out)
  clear KC
  go_wp2_with fail
  go_ret
  exact ⟨rfl, HEnd.out⟩
end Go.Proofs.YtcooacjpblhblaaDoor
