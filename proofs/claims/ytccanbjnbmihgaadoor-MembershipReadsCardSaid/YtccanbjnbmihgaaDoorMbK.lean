/-
  slices.Insert of one entry in the midst of a row that has no room; Insert at any place.
-/
import Derived.Test.YtccanbjnbmihgaaDoorMbJ
namespace Go.Proofs.YtccanbjnbmihgaaDoor
open Go.RowKit Go.Shelf
set_option linter.unusedVariables false
set_option linter.unusedSimpArgs false

/-- The new row behind both copies. -/
theorem row_grow {T : TypeId} {B g n c i : Nat} {w : World} {l : List Ent} {x : Ent} {cur : Array Value} (hg : w.heap[g]? = some (.cells cur T (0, 0))) (hb : B ≤ g) (hcs : cur.size = c * 3)
    (ht : cur.toList.take (i * 3) = (flatE l).take (i * 3)) (hn : n = l.length) (hi : i ≤ n) (hroom : n + 1 ≤ c) (hcm : c ≤ maxLen) :
    OwnE T B ((w.setCells g (i * 3) (entC x)).setCells g ((i + 1) * 3) (flatE (l.drop i))) (.slice (some ⟨g, 0, none⟩) (n + 1) c) (l.take i ++ [x] ++ l.drop i) := by
  unfold OwnE
  have hX : (flatE l).length = n * 3 := by rw [flatE_length, hn]
  have e1 : (flatE (l.drop i)).length = (n - i) * 3 := by rw [flatE_length, List.length_drop, hn]
  obtain ⟨t1, t2⟩ := flatE_cut l i (by omega)
  have e2 : flatE (l.take i ++ [x] ++ l.drop i) = (flatE l).take (i * 3) ++ entC x ++ (flatE l).drop (i * 3) := by
    rw [flatE_append, flatE_append, t1, t2]
    have : flatE [x] = entC x := by simp [flatE]
    rw [this]
  have e3 : (l.take i ++ [x] ++ l.drop i).length = n + 1 := by
    simp only [List.length_append, List.length_take, List.length_drop, List.length_singleton]; omega
  rw [e3, e2]
  rw [t2] at e1 ⊢
  have lx : (entC x).length = 3 := rfl
  obtain ⟨c1, a1, a2, a3⟩ := heap_setCells_same g T (entC x) (i * 3) w cur hg (by rw [lx]; omega)
  obtain ⟨c2, b1, b2, b3⟩ := heap_setCells_same g T ((flatE l).drop (i * 3)) ((i + 1) * 3) _ c1 a1 (by rw [e1]; omega)
  have ly : ((flatE l).take (i * 3)).length = i * 3 := by rw [List.length_take, hX, Nat.min_eq_left (by omega)]
  refine ⟨by simp only [List.length_append, ly, lx, e1]; omega, .inr ⟨g, c, c2, rfl, hb, b1, hroom, hcm, by omega, ?_⟩⟩
  apply List.ext_getElem?
  intro j
  have hq : c2.toList.length = c * 3 := by rw [Array.length_toList]; omega
  by_cases hj : j < (n + 1) * 3
  · rw [List.getElem?_take_of_lt hj, b3 j, a3 j, lx, e1]
    by_cases j1 : j < i * 3
    · rw [if_neg (by omega), if_neg (by omega), List.append_assoc, List.getElem?_append_left (by omega)]
      exact take_getElem? ht j1
    · by_cases j2 : j < i * 3 + 3
      · rw [if_neg (by omega), if_pos (by omega), List.getElem?_append_left (by rw [List.length_append, ly, lx]; omega), List.getElem?_append_right (by omega), ly]
      · rw [if_pos (by omega), List.getElem?_append_right (by rw [List.length_append, ly, lx]; omega), List.length_append, ly, lx]
        congr 1
        omega
  · rw [List.getElem?_eq_none (by rw [List.length_take]; omega), List.getElem?_eq_none (by simp only [List.length_append, ly, lx, e1]; omega)]

set_option maxRecDepth 100000 in
set_option maxHeartbeats 4000000 in
theorem insert_grow (w : World) (l : List Ent) (x : Ent) (B p g n i : Nat) (hown : OwnE 87 B w (.slice (some ⟨g, 0, none⟩) n n) l) (hn : n = l.length) (hl : n ≤ 1000000) (hi : i < n) (hB : B ≤ w.heap.size) (hgp : g ≠ p) (hx : One w p x) :
    Calls Tryd.prog 84 #[.slice (some ⟨g, 0, none⟩) n n, .int .i64 (i : Int), .slice (some ⟨p, 0, none⟩) 1 1] w fun e w' =>
      ∃ v', e = .returned v' ∧ OwnE 87 B w' v' (l.take i ++ [x] ++ l.drop i) ∧ Kept (fun _ => False) w w' ∧ v'.ownBlock = some w.heap.size := by
  obtain ⟨i0, hi0, hz0, hz1, hz2⟩ := info_parts info_ent
  obtain ⟨t1, t2⟩ := flatE_cut l i (by omega)
  have hX : (flatE l).length = n * 3 := by rw [flatE_length, hn]
  have e1 : (flatE (l.drop i)).length = (n - i) * 3 := by rw [flatE_length, List.length_drop, hn]
  have et : (flatE (l.take i)).length = i * 3 := by rw [flatE_length, List.length_take, Nat.min_eq_left (by omega)]
  have lx : (entC x).length = 3 := rfl
  have hown0 := hown
  unfold OwnE at hown
  rw [← hn] at hown
  obtain ⟨hgs, hbg⟩ : g < w.heap.size ∧ B ≤ g := ⟨(World.ownsRow.lt hown g rfl).2, (World.ownsRow.lt hown g rfl).1⟩
  have hps : p < w.heap.size := by
    obtain ⟨T, h⟩ := hx
    exact (Array.getElem?_eq_some_iff.1 h).1
  obtain ⟨k, hk⟩ : ∃ k, k = n + 1 - i := ⟨_, rfl⟩
  have hold : (Builtin.firstCells i0.size i (.slice (some ⟨g, 0, none⟩) i n)).run Tryd.prog w.drew = .ok (flatE (l.take i)).toArray w.drew := by
    rw [hz1]
    exact run_firstCells_some w.drew 3 i ⟨g, 0, none⟩ i n (flatE (l.take i)) et (fun j v hj => by
      have hj2 : j < i * 3 := by
        have := (List.getElem?_eq_some_iff.1 hj).1
        rwa [et] at this
      rw [Addr.add_lit, Nat.zero_add]
      rw [t1, List.getElem?_take_of_lt hj2] at hj
      exact (World.ownsRow.cellAt hown j (by omega)).trans hj)
  have hik : i + k = n + 1 := by omega
  obtain ⟨c', hc'⟩ : ∃ c', c' = grownCap w (i + k) n 87 := ⟨_, rfl⟩
  have hge : n + 1 ≤ c' := by rw [hc', ← hik]; exact grownCap_ge w (i + k) n _
  have hle : c' ≤ maxLen := by rw [hc']; exact grownCap_le_maxLen w (i + k) n _ (by unfold maxLen; omega)
  have hrun0 := fun ty => Lib.run_append_grow_zeros (P := Tryd.prog) w 85 3 ty 87 i0 _ .i64 .i64 Tryd.underlying85 Tryd.underlying3 hi0 hz0 (some ⟨g, 0, none⟩) i n (flatE (l.take i)) hold k (by omega) (by omega) (by omega) (by omega) (by rw [hz2]; omega) (growslice_fits (by omega) (by rw [hz2]; omega))
  rw [← hc', hik] at hrun0
  obtain ⟨C, hC⟩ : ∃ C, C = (flatE (l.take i)).toArray ++ Builtin.zeroCells (Value.agg #[.int .i64 0, .int .i64 0, .int .i64 0]).cells k ++ Builtin.zeroCells (Value.agg #[.int .i64 0, .int .i64 0, .int .i64 0]).cells (c' - (n + 1)) := ⟨_, rfl⟩
  have hCs : C.size = c' * 3 := by
    rw [hC, Array.size_append, Array.size_append, size_zeroCells, size_zeroCells, show (Value.agg #[.int .i64 0, .int .i64 0, .int .i64 0]).cells.size = 3 from rfl, List.size_toArray, et]; omega
  have hCt : C.toList.take (i * 3) = (flatE l).take (i * 3) := by
    rw [hC, Array.toList_append, Array.toList_append, List.append_assoc, List.take_append_of_le_length (by simp [et]), ← t1]
    exact List.take_of_length_le (by simp [et])
  obtain ⟨G, hG⟩ : ∃ G, G = w.heap.size := ⟨_, rfl⟩
  obtain ⟨W1, hW1⟩ : ∃ W1, W1 = w.drew.alloc (.cells C 87) := ⟨_, rfl⟩
  have hrun : ∀ ty, (Builtin.append_ #[85, 3] ty #[.slice (some ⟨g, 0, none⟩) i n, .int .i64 ((n : Int) + 1 - (i : Int))]).run Tryd.prog w = .ok (.slice (some ⟨G, 0, none⟩) (n + 1) c') W1 := fun ty => by
    rw [show (n : Int) + 1 - (i : Int) = (k : Int) by omega, hrun0 ty, hW1, hC, hG]
  have hWG : W1.heap[G]? = some (.cells C 87 (0, 0)) := by rw [hW1, hG]; exact heap_alloc_new w.drew _
  have K1 : Kept (fun _ => False) w W1 := by rw [hW1]; exact (Kept.refl (fun _ => False) w).drew.then (Kept.alloc _ _ _)
  have hspG : ∀ j, j < c' * 3 → (W1.cell? ⟨G, j, none⟩).isSome = true := fun j hj => by
    rw [cell_of_row W1 G j C _ (0, 0) hWG]; simp; omega
  have hfzG : ∀ j, W1.frozen? ⟨G, j, none⟩ = false := fun j => frozen_of_row W1 G j C _ hWG
  have hx1 : ∀ j v, (entC x)[j]? = some v → W1.cell? ((⟨p, 0, none⟩ : Addr).add j) = some v := fun j v hj => by
    have h := One.cells hx j v hj
    rw [Addr.add_lit] at h ⊢
    exact (K1.cell (World.block_lt_of_cell? w _ h) (fun h => h)).trans h
  have hcpA : ∀ ty dc, (Builtin.copy_ #[85, 85] ty #[.slice (some ⟨G, i * 3, none⟩) (n + 1 - i) dc, .slice (some ⟨p, 0, none⟩) 1 1]).run Tryd.prog W1 = .ok (goInt (Nat.min 1 (n + 1 - i))) (W1.setCells G (i * 3) (entC x)) := fun ty dc =>
    run_copy_wide W1 _ _ ty 87 G (i * 3) (n + 1 - i) dc ⟨p, 0, none⟩ 1 1 3 (entC x) Tryd.underlying85 sizeI_ent (by rw [lx, show Nat.min 1 (n + 1 - i) = 1 from Nat.min_eq_left (by omega)])
      hx1 (fun j hj => hspG (i * 3 + j) (by have : j < 3 := hj; omega)) (fun j hj => hfzG _) (entC_one x)
  obtain ⟨W2, hW2⟩ : ∃ W2, W2 = W1.setCells G (i * 3) (entC x) := ⟨_, rfl⟩
  have hcpB : ∀ ty dc sc, (Builtin.copy_ #[85, 85] ty #[.slice (some ⟨G, (i + 1) * 3, none⟩) (n - i) dc, .slice (some ⟨g, i * 3, none⟩) (n - i) sc]).run Tryd.prog W2.drew = .ok (goInt (Nat.min (n - i) (n - i))) (W2.drew.setCells G ((i + 1) * 3) (flatE (l.drop i))) := fun ty dc sc =>
    run_copy_wide W2.drew _ _ ty 87 G ((i + 1) * 3) (n - i) dc ⟨g, i * 3, none⟩ (n - i) sc 3 (flatE (l.drop i)) Tryd.underlying85 sizeI_ent (by rw [e1, show Nat.min (n - i) (n - i) = n - i from Nat.min_self _])
      (fun j v hj => by
        have hj2 : j < (n - i) * 3 := by
          have := (List.getElem?_eq_some_iff.1 hj).1
          rwa [e1] at this
        rw [Addr.add_lit]
        rw [t2, List.getElem?_drop] at hj
        have h := (World.ownsRow.cellAt hown (i * 3 + j) (by omega)).trans hj
        show W2.cell? _ = _
        rw [hW2, World.cell?_setCells_out G _ _ _ _ (fun e _ => absurd (show g = G from e) (by omega))]
        exact (K1.cell (World.block_lt_of_cell? w _ h) (fun h => h)).trans h)
      (fun j hj => by
        show (W2.cell? _).isSome = true
        rw [hW2]
        exact isSome_setCells G _ _ W1 (fun k hk => hspG (i * 3 + k) (by have : k < 3 := hk; omega)) _ (hspG ((i + 1) * 3 + j) (by rw [e1] at hj; omega)))
      (fun j hj => by
        show W2.frozen? _ = false
        rw [hW2, World.frozen?_setCells]; exact hfzG _) (flatE_one _)
  have HE : Hid (OwnE 87 B (W2.drew.setCells G ((i + 1) * 3) (flatE (l.drop i))) (.slice (some ⟨G, 0, none⟩) (n + 1) c') (l.take i ++ [x] ++ l.drop i) ∧ Kept (fun _ => False) w (W2.drew.setCells G ((i + 1) * 3) (flatE (l.drop i))) ∧ G = w.heap.size) := by
    refine Lib.hid ⟨?_, ?_, hG⟩
    · have h := row_grow (w := W1.drew) (x := x) hWG (show B ≤ G by omega) hCs hCt hn (by omega) hge hle
      rw [← drew_setCells, ← hW2] at h
      exact h
    · rw [hW2]
      exact ((K1.trans (T := fun _ => False) (setCells_kept G (entC x) (i * 3) W1) (fun _ _ h => h) (fun i hi h => by omega)).drew).trans (T := fun _ => False) (setCells_kept G (flatE (l.drop i)) _ _) (fun _ _ h => h) (fun i hi h => by omega)
  rw [← hW2] at hcpA
  have mixed : Tryd.prog.follows .mixedOrders = true := by kernel_rfl
  subst hk
  clear hold hik
  have HN := Lib.hid hn
  unfold maxLen at hle
  clear hown hown0 hn hX e1 et t1 t2 hWG hCs hCt hC hspG hfzG hx1 hW1 hW2 K1 hrun0 hc' hG hx
  have hni : ¬ ((i : Int) = (n : Int)) := by omega
  have hb2 : ¬ (c' = i + 1) := by omega
  have hb3 : ¬ (c' = i) := by omega
  have hb4 : ¬ (n = i) := by omega
  have hw1 : IntKind.i64.wrap ((i : Int) + 1) = (i : Int) + 1 := by rw [IntKind.wrap_i64]; omega
  have hb1 : (0 : Int) ≤ (i : Int) + 1 := by omega
  have htn : ((i : Int) + 1).toNat = i + 1 := by omega
  have hb6 : (i : Int) ≤ (n : Int) + 1 := by omega
  have hb5 : (i : Int) + 1 ≤ (n : Int) + 1 := by omega
  have hin : i ≤ n := by omega
  have hsb : n + 1 - (i + 1) = n - i := by omega
  go_enter Tryd.func84, Tryd.ntmps84
  go_wp2_with (at_builtin; refine Lib.wpList_append_run _ rfl _ _ _ _ rfl _ _ rfl rfl _ _ (hrun _) ?_)
  go_wp2_with (at_builtin; refine wpList_copy_runI _ rfl _ _ 85 85 rfl _ _ rfl rfl (hcpA _ _) ?_)
  go_region_law_o (refine step_copy_runI rfl _ _ 85 85 rfl _ _ (by simp [Act.eval, Act.put]) (by simp [Act.eval, Act.put]) (hcpB _ _ _) ?_)
  go_wp2_with fail
  go_ret
  exact ⟨_, rfl, HE.out.1, HE.out.2.1, by rw [← HE.out.2.2]; rfl⟩
end Go.Proofs.YtccanbjnbmihgaaDoor
