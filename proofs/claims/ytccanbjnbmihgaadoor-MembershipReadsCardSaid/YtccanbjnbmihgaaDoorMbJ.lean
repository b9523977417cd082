/-
  slices.Insert of one entry in the midst of a row that has room.
-/
import Derived.Test.YtccanbjnbmihgaaDoorMbI
namespace Go.Proofs.YtccanbjnbmihgaaDoor
open Go.RowKit Go.Shelf
set_option linter.unusedVariables false
set_option linter.unusedSimpArgs false

theorem flatE_cut (l : List Ent) (k : Nat) (hk : k ≤ l.length) : flatE (l.take k) = (flatE l).take (k * 3) ∧ flatE (l.drop k) = (flatE l).drop (k * 3) := by
  have h : flatE l = flatE (l.take k) ++ flatE (l.drop k) := by rw [← flatE_append, List.take_append_drop]
  have hl : (flatE (l.take k)).length = k * 3 := by rw [flatE_length, List.length_take, Nat.min_eq_left hk]
  rw [h, List.take_left' hl, List.drop_left' hl]; exact ⟨rfl, rfl⟩
theorem take_getElem? {α : Type} {cur X : List α} {m j : Nat} (h : cur.take m = X) (hj : j < m) : cur[j]? = X[j]? := by
  rw [← h, List.getElem?_take_of_lt hj]
theorem size_ent : ∀ w, (Go.sizeOf 87).run Tryd.prog w = .ok 3 w := fun w => by
  obtain ⟨i0, hi0, hz0, hz1, hz2⟩ := info_parts info_ent
  simp [Go.sizeOf, Go.typeInfo, hi0, hz1]
theorem sizeI_ent : (Tryd.prog.info? 87).map (·.size) = some 3 := by
  obtain ⟨i0, hi0, hz0, hz1, hz2⟩ := info_parts info_ent
  rw [hi0]; simp [hz1]

/-- The row behind both copies. -/
theorem row_insert {T : TypeId} {B g n c i : Nat} {w : World} {l : List Ent} {x : Ent} (h : OwnE T B w (.slice (some ⟨g, 0, none⟩) n c) l) (hn : n = l.length) (hi : i ≤ n) (hroom : n + 1 ≤ c) :
    OwnE T B ((w.setCells g ((i + 1) * 3) (flatE (l.drop i))).setCells g (i * 3) (entC x)) (.slice (some ⟨g, 0, none⟩) (n + 1) c) (l.take i ++ [x] ++ l.drop i) := by
  unfold OwnE at h ⊢
  have hX : (flatE l).length = n * 3 := by rw [flatE_length, hn]
  have e1 : (flatE (l.drop i)).length = (n - i) * 3 := by rw [flatE_length, List.length_drop, hn]
  obtain ⟨t1, t2⟩ := flatE_cut l i (by omega)
  have e2 : flatE (l.take i ++ [x] ++ l.drop i) = (flatE l).take (i * 3) ++ entC x ++ (flatE l).drop (i * 3) := by
    rw [flatE_append, flatE_append, t1, t2]
    have : flatE [x] = entC x := by simp [flatE]
    rw [this]
  have e3 : (l.take i ++ [x] ++ l.drop i).length = n + 1 := by
    simp only [List.length_append, List.length_take, List.length_drop, List.length_singleton]; omega
  rw [← hn] at h
  rw [e3, e2]
  rw [t2] at e1 ⊢
  have lx : (entC x).length = 3 := rfl
  rcases h.2 with ⟨h', _⟩ | ⟨g', cap', cur, h', hb, hg, hnc, hcm, hcs, htake⟩
  · cases h'
  · cases h'
    obtain ⟨c1, a1, a2, a3⟩ := heap_setCells_same g T ((flatE l).drop (i * 3)) ((i + 1) * 3) w cur hg (by rw [e1]; omega)
    obtain ⟨c2, b1, b2, b3⟩ := heap_setCells_same g T (entC x) (i * 3) _ c1 a1 (by rw [lx]; omega)
    have ly : ((flatE l).take (i * 3)).length = i * 3 := by rw [List.length_take, hX, Nat.min_eq_left (by omega)]
    refine ⟨by simp only [List.length_append, ly, lx, e1]; omega, .inr ⟨g, c, c2, rfl, hb, b1, hroom, hcm, by omega, ?_⟩⟩
    apply List.ext_getElem?
    intro j
    have hq : c2.toList.length = c * 3 := by rw [Array.length_toList]; omega
    by_cases hj : j < (n + 1) * 3
    · rw [List.getElem?_take_of_lt hj, b3 j, a3 j, lx, e1]
      by_cases j1 : j < i * 3
      · rw [if_neg (by omega), if_neg (by omega), List.append_assoc, List.getElem?_append_left (by omega), List.getElem?_take_of_lt j1]
        exact take_getElem? htake (by omega)
      · by_cases j2 : j < i * 3 + 3
        · rw [if_pos (by omega), List.getElem?_append_left (by rw [List.length_append, ly, lx]; omega), List.getElem?_append_right (by omega), ly]
        · rw [if_neg (by omega), if_pos (by omega), List.getElem?_append_right (by rw [List.length_append, ly, lx]; omega), List.length_append, ly, lx]
          congr 1
          omega
    · rw [List.getElem?_eq_none (by rw [List.length_take]; omega), List.getElem?_eq_none (by simp only [List.length_append, ly, lx, e1]; omega)]

set_option maxRecDepth 100000 in
set_option maxHeartbeats 4000000 in
theorem insert_mid (w : World) (l : List Ent) (x : Ent) (B p g n c i : Nat) (hown : OwnE 87 B w (.slice (some ⟨g, 0, none⟩) n c) l) (hn : n = l.length) (hl : n ≤ 1000000) (hi : i < n) (hroom : n + 1 ≤ c) (hc : c ≤ maxLen) (hgp : g ≠ p) (hx : One w p x) :
    Calls Tryd.prog 84 #[.slice (some ⟨g, 0, none⟩) n c, .int .i64 (i : Int), .slice (some ⟨p, 0, none⟩) 1 1] w fun e w' =>
      ∃ v', e = .returned v' ∧ OwnE 87 B w' v' (l.take i ++ [x] ++ l.drop i) ∧ Kept (fun k => k = g) w w' := by
  have HR : Hid (OwnE 87 B ((w.drew.setCells g ((i + 1) * 3) (flatE (l.drop i))).setCells g (i * 3) (entC x)) (.slice (some ⟨g, 0, none⟩) (n + 1) c) (l.take i ++ [x] ++ l.drop i)) :=
    row_insert (w := w.drew) hown hn (by omega) hroom
  obtain ⟨t1, t2⟩ := flatE_cut l i (by omega)
  have hX : (flatE l).length = n * 3 := by rw [flatE_length, hn]
  have e1 : (flatE (l.drop i)).length = (n - i) * 3 := by rw [flatE_length, List.length_drop, hn]
  have lx : (entC x).length = 3 := rfl
  have hown0 := hown
  unfold OwnE at hown
  rw [← hn] at hown
  obtain ⟨Tx, hpx⟩ := hx
  obtain ⟨cur, hg, hcs⟩ : ∃ cur, w.heap[g]? = some (.cells cur 87 (0, 0)) ∧ cur.size = c * 3 := by
    rcases hown.2 with ⟨h', _⟩ | ⟨g', cap', cur, h', hb, hg, hnc, hcm, hcs, htake⟩
    · cases h'
    · cases h'; exact ⟨cur, hg, hcs⟩
  have hsp : ∀ k, k < c * 3 → (w.cell? ⟨g, k, none⟩).isSome = true := fun k hk => by
    rw [cell_of_row w g k cur _ (0, 0) hg]; simp; omega
  have hfz : ∀ k, w.frozen? ⟨g, k, none⟩ = false := fun k => frozen_of_row w g k cur _ hg
  have hov : ∀ lb cb, (callFunc 98 #[.slice (some ⟨p, 0, none⟩) 1 1, .slice (some ⟨g, (i + 1) * 3, none⟩) lb cb]).run Tryd.prog w = .ok (.value (.bool false)) w := fun lb cb => by
    rw [run_callFunc_extern Tryd.func98 (by kernel_rfl) (by kernel_rfl) (by kernel_rfl) (e := Extern.SlicesOverlaps.overlaps #[85, 85] #[4]) (by kernel_rfl),
      Lib.run_overlaps_apart w 85 4 87 Tryd.underlying85 3 size_ent ⟨p, 0, none⟩ ⟨g, (i + 1) * 3, none⟩ 1 1 lb cb (Ne.symm hgp) Tx 87 3 (c * 3)
        (by simp [World.shape?, hpx, entC]) (by simp [World.shape?, hg, hcs]) (by omega) (frozen_of_row w p 0 _ _ hpx) (frozen_of_row w p 3 _ _ hpx)]
    rfl
  have hcp1 : ∀ ty dc sc, (Builtin.copy_ #[85, 85] ty #[.slice (some ⟨g, (i + 1) * 3, none⟩) (n - i) dc, .slice (some ⟨g, i * 3, none⟩) (n + 1 - i) sc]).run Tryd.prog w.drew = .ok (goInt (Nat.min (n + 1 - i) (n - i))) (w.drew.setCells g ((i + 1) * 3) (flatE (l.drop i))) := fun ty dc sc =>
    run_copy_wide w.drew _ _ ty 87 g ((i + 1) * 3) (n - i) dc ⟨g, i * 3, none⟩ (n + 1 - i) sc 3 (flatE (l.drop i)) Tryd.underlying85 sizeI_ent (by rw [e1]; congr 1; simp only [Nat.min_def]; split <;> omega)
      (fun j v hj => by
        have hj2 : j < (n - i) * 3 := by
          have := (List.getElem?_eq_some_iff.1 hj).1
          rwa [e1] at this
        rw [Addr.add_lit]
        rw [t2, List.getElem?_drop] at hj
        exact (World.ownsRow.cellAt hown (i * 3 + j) (by omega)).trans hj)
      (fun j hj => hsp _ (by rw [e1] at hj; omega)) (fun j hj => hfz _) (flatE_one _)
  obtain ⟨W1, hW1⟩ : ∃ W1, W1 = w.drew.setCells g ((i + 1) * 3) (flatE (l.drop i)) := ⟨_, rfl⟩
  have hcp2 : ∀ (W : World), (∀ x, W.cell? x = W1.cell? x) → (∀ x, W.frozen? x = W1.frozen? x) → ∀ ty dc, (Builtin.copy_ #[85, 85] ty #[.slice (some ⟨g, i * 3, none⟩) (n + 1 - i) dc, .slice (some ⟨p, 0, none⟩) 1 1]).run Tryd.prog W = .ok (goInt (Nat.min 1 (n + 1 - i))) (W.setCells g (i * 3) (entC x)) := fun W hWc hWf ty dc =>
    run_copy_wide W _ _ ty 87 g (i * 3) (n + 1 - i) dc ⟨p, 0, none⟩ 1 1 3 (entC x) Tryd.underlying85 sizeI_ent (by rw [lx, show Nat.min 1 (n + 1 - i) = 1 from Nat.min_eq_left (by omega)])
      (fun j v hj => by
        rw [hWc, hW1, World.cell?_setCells_out g _ _ _ _ (fun h _ => absurd (show p = g by rw [Addr.add_lit] at h; exact h) (Ne.symm hgp))]
        exact One.cells ⟨Tx, hpx⟩ j v hj)
      (fun j hj => by rw [hWc, hW1]; exact isSome_setCells g _ _ w.drew (fun k hk => hsp ((i + 1) * 3 + k) (by rw [e1] at hk; omega)) _ (hsp (i * 3 + j) (by have : j < 3 := hj; omega))) (fun j hj => by rw [hWf, hW1, World.frozen?_setCells]; exact hfz _) (entC_one x)
  have HK : Hid (Kept (fun k => k = g) w (W1.setCells g (i * 3) (entC x))) := by
    rw [hW1]
    exact ((Kept.refl (fun k => k = g) w).drew.trans (setCells_kept g (flatE (l.drop i)) _ _) (fun _ _ h => h) (fun _ _ h => h)).trans (setCells_kept g (entC x) _ _) (fun _ _ h => h) (fun _ _ h => h)
  rw [← hW1] at hcp1 HR
  have mixed : Tryd.prog.follows .mixedOrders = true := by kernel_rfl
  unfold maxLen at hc
  have HN := Lib.hid hn
  clear hown hown0 hn hX e1 t1 t2 hg hcs hsp hfz hpx hW1
  have hni : ¬ ((i : Int) = (n : Int)) := by omega
  have hb2 : ¬ (c = i + 1) := by omega
  have hb4 : ¬ (c = i) := by omega
  have hw1 : IntKind.i64.wrap ((i : Int) + 1) = (i : Int) + 1 := by rw [IntKind.wrap_i64]; omega
  have hb1 : (0 : Int) ≤ (i : Int) + 1 := by omega
  have htn : ((i : Int) + 1).toNat = i + 1 := by omega
  have hb3 : (i : Int) ≤ (n : Int) + 1 := by omega
  have hb5 : (i : Int) + 1 ≤ (n : Int) + 1 := by omega
  have hin : i ≤ n := by omega
  have hsb : n + 1 - (i + 1) = n - i := by omega
  go_enter Tryd.func84, Tryd.ntmps84
  go_wp2_with (simp only [hov])
  go_region_law_o (refine step_copy_runI rfl _ _ 85 85 rfl _ _ (by simp [Act.eval, Act.put]) (by simp [Act.eval, Act.put]) (hcp1 _ _ _) ?_)
  go_wp2_with (at_builtin; refine wpList_copy_runI _ rfl _ _ 85 85 rfl _ _ rfl rfl (hcp2 _ (fun _ => rfl) (fun _ => rfl) _ _) ?_)
  go_ret
  exact ⟨_, rfl, HR.out, HK.out⟩
end Go.Proofs.YtccanbjnbmihgaaDoor
