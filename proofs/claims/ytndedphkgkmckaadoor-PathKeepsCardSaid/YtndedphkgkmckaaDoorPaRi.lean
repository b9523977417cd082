/-
  The reference's insert of lists of paths.
-/
import Derived.Test.YtndedphkgkmckaaDoorPaRf
import Derived.Test.YtndedphkgkmckaaDoorPaLs
import Derived.Test.YtndedphkgkmckaaDoorPaBe
import Derived.Deep.RegionLaw
import Derived.Deep.DrawnRows
namespace Go.Proofs.YtndedphkgkmckaaDoor
open Go.RowKit
attribute [local go_sem ↓] Go.wp_at_zero Go.wp_at_succ
set_option linter.unusedSimpArgs false
set_option linter.unusedVariables false

/-- How many paths at the beginning stand before p. -/
def idxS (l : List ByteArray) (p : ByteArray) : Nat := (l.takeWhile fun x => decide (compareS x p = -1)).length
/-- The list with a further path. -/
def insS (l : List ByteArray) (p : ByteArray) : List ByteArray := if memS p l = true then l else l.take (idxS l p) ++ p :: l.drop (idxS l p)

theorem takeWhile_at {f : ByteArray → Bool} : ∀ (l : List ByteArray) (k : Nat), k ≤ l.length → (∀ j, j < k → f (l.getD j ⟨#[]⟩) = true) → (k < l.length → f (l.getD k ⟨#[]⟩) = false) → (l.takeWhile f).length = k
  | [], k, hk, _, _ => by simp at hk; simp [hk]
  | x :: t, 0, _, _, h => by
    have := h (by simp)
    simp only [List.getD_cons_zero] at this
    simp [List.takeWhile, this]
  | x :: t, k + 1, hk, h1, h2 => by
    have h0 := h1 0 (by omega)
    simp only [List.getD_cons_zero] at h0
    have ih := takeWhile_at t k (by simpa using hk) (fun j hj => by have := h1 (j + 1) (by omega); simpa using this) (fun hk' => by have := h2 (by simpa using hk'); simpa using this)
    simp [List.takeWhile, h0, ih]

theorem strs_drop_run (g off n c i : Nat) (xs : List ByteArray) (hn : n = xs.length) (hi : i ≤ n) (hnc : n ≤ c) :
    ∃ v2, (∀ W, (Instr.slice 25 (.slice (some ⟨g, off, none⟩) n c) (some (.int .i64 i)) none none).run Tryd.prog W = .ok v2 W) ∧ ∀ W, Strs W (.slice (some ⟨g, off, none⟩) n c) xs → Strs W v2 (xs.drop i) := by
  have l0 : (0 : Int) ≤ (i : Int) := by omega
  have l1 : (i : Int) ≤ (n : Int) := by omega
  by_cases hic : i = c
  · subst hic
    obtain rfl : n = i := by omega
    refine ⟨.slice (some ⟨g, off, none⟩) 0 0, fun W => by clear hn; go_simp, fun W h => ?_⟩
    rcases h with ⟨e, _⟩ | ⟨g', off', cap, e, h1, h2, h3, h4⟩
    · cases e
    · cases e
      rw [List.drop_of_length_le (by omega)]
      exact Or.inr ⟨_, _, 0, rfl, by simp, by simp, h3, fun j hj => by simp at hj⟩
  · have hic2 : ¬ c = i := fun e => hic e.symm
    refine ⟨.slice (some ⟨g, off + i, none⟩) (n - i) (c - i), fun W => by clear hn; go_simp, fun W h => ?_⟩
    rcases h with ⟨e, _⟩ | ⟨g', off', cap, e, h1, h2, h3, h4⟩
    · cases e
    · cases e
      have hl : (xs.drop i).length = xs.length - i := List.length_drop
      refine Or.inr ⟨g, off + i, c - i, by rw [hl], by rw [hl]; omega, by unfold maxLen at h2 ⊢; omega, h3, fun j hj => ?_⟩
      rw [hl] at hj
      rw [show off + i + j = off + (i + j) by omega, h4 (i + j) (by omega)]
      simp [List.getD]

set_option maxRecDepth 100000 in
theorem rinsert_has (v : Value) (xs : List ByteArray) (p : ByteArray) (w : World) (h : Strs w v xs) (hm : memS p xs = true) :
    Calls Tryd.prog 61 #[v, .string p] w fun e w' => e = .returned v ∧ w = w' := by
  have HH := rhas_any _ xs p w h
  rw [hm] at HH
  have HH := Lib.hid HH
  obtain ⟨a, c, rfl, _, _⟩ := h.form
  generalize xs.length = n at HH ⊢
  clear h hm
  go_enter Tryd.func61, Tryd.ntmps61
  go_wp2_with fail
  refine HH.out.mono ?_
  rintro e w1 ⟨rfl, rfl⟩
  go_wp2_with fail
  go_ret
  exact ⟨rfl, rfl⟩

set_option maxRecDepth 100000 in
set_option maxHeartbeats 6400000 in
theorem rinsert_new (v : Value) (xs : List ByteArray) (p : ByteArray) (w0 : World) (h : Strs w0 v xs) (hm : memS p xs = false) (h0 : 0 < xs.length) (hl : xs.length ≤ 100000) (hz : ∀ x ∈ xs, x.size ≤ 100000) (hp : p.size ≤ 100000) :
    Calls Tryd.prog 61 #[v, .string p] w0 fun e w' => ∃ v', e = .returned v' ∧ Strs w' v' (insS xs p) ∧ Kept (fun _ => False) w0 w' := by
  have hres : insS xs p = xs.take (idxS xs p) ++ p :: xs.drop (idxS xs p) := if_neg (by rw [hm]; decide)
  have HH := rhas_any _ xs p w0 h
  rw [hm] at HH
  have HH := Lib.hid HH
  obtain ⟨a, c, rfl, hnc, hcm⟩ := h.form
  obtain ⟨g, off, ha, hg, _⟩ := h.at h0
  subst ha
  have HS := Lib.hid h
  have HXL := Lib.hid hl
  obtain ⟨n, hn⟩ : ∃ n, n = xs.length := ⟨_, rfl⟩
  have hnb : n ≤ 100000 := by omega
  have hnc2 : n ≤ c := by omega
  have hnci : (n : Int) ≤ (c : Int) := by omega
  rw [← hn] at HS HH ⊢
  have HN := Lib.hid hn; have HZ := Lib.hid hz; have HRE := Lib.hid hres
  clear h hn hcm hm hz hl hres h0
  go_enter Tryd.func61, Tryd.ntmps61
  go_wp2_with fail
  refine HH.out.mono ?_
  rintro e w1 ⟨rfl, rfl⟩
  go_wp2_with fail
  go_loopw [5] (fun iv wr => ∃ k : Nat, k ≤ n ∧ iv = .int .i64 k ∧ Hid (∀ j, j < k → decide (compareS (xs.getD j ⟨#[]⟩) p = -1) = true) ∧ Hid (Kept (fun _ => False) w0 wr)) (fun iv _ => n - (intOf iv).toNat)
  case atStart => exact ⟨0, by omega, rfl, fun j hj => by omega, Kept.refl _ _⟩
  case round =>
    obtain ⟨k, hk, rfl, hall, hkw⟩ := hrel
    have l0 : (0 : Int) ≤ (k : Int) := by omega
    have hcase : (k < n ∧ decide (compareS (xs.getD k ⟨#[]⟩) p = -1) = true) ∨ (k < n ∧ decide (compareS (xs.getD k ⟨#[]⟩) p = -1) = false) ∨ k = n := by
      by_cases hlt : k < n
      · cases hd : decide (compareS (xs.getD k ⟨#[]⟩) p = -1) with
        | true => exact Or.inl ⟨hlt, rfl⟩
        | false => exact Or.inr (Or.inl ⟨hlt, rfl⟩)
      · exact Or.inr (Or.inr (by omega))
    rcases hcase with ⟨hlt, hd⟩ | hcase
    · have l1 : (k : Int) < (n : Int) := by omega
      obtain ⟨g2, off2, e2, _, hcell⟩ := (HS.out.kept hkw.out (fun _ _ h => h)).at (k := k) (by have := HN.out; omega)
      cases e2
      have hxz := HZ.out (xs.getD k ⟨#[]⟩) (by rw [List.getD_eq_getElem?_getD, List.getElem?_eq_getElem (by have := HN.out; omega)]; exact List.getElem_mem _)
      have hL := less_any (xs.getD k ⟨#[]⟩) p hxz hp wr
      rw [hd] at hL
      have HL := Lib.hid hL
      have HALL : Hid (∀ j, j < k + 1 → decide (compareS (xs.getD j ⟨#[]⟩) p = -1) = true) := fun j hj => by
        by_cases e : j < k
        · exact hall.out j e
        · obtain rfl : j = k := by omega
          exact hd
      clear hL hd hxz
      generalize xs.getD k ⟨#[]⟩ = x at hcell HL
      go_wp2_with fail
      refine HL.out.mono ?_
      rintro e w2 ⟨rfl, k2⟩
      have HK2 := Lib.hid (hkw.out.then k2)
      clear k2
      go_wp2_with fail
      go_roundw
      case rel => first | exact ⟨k + 1, by omega, by go_num, HALL, HK2⟩ | ((repeat apply Exists.intro); exact ⟨⟨k + 1, by omega, by go_num, HALL, HK2⟩, rfl⟩)
      case measure => simp [intOf]; omega
    · have hidx : idxS xs p = k := takeWhile_at xs k (by have := HN.out; omega) hall.out (fun h => by
        rcases hcase with ⟨_, h2⟩ | h2
        · exact h2
        · have := HN.out; omega)
      have HRES : Hid (insS xs p = (([] ++ xs.take k) ++ [p]) ++ xs.drop k) := by
        have := HRE.out
        rw [hidx] at this
        show _ = _
        rw [this]; simp
      obtain ⟨vd, hrd, hds⟩ := strs_drop_run g off n c k xs HN.out (by omega) hnc2
      have HCUT : Hid (∀ W, Kept (fun _ => False) w0 W → Strs W (.slice (some ⟨g, off, none⟩) k c) (xs.take k)) := fun W hk2 => (HS.out.kept hk2 (fun _ _ h => h)).cut (by have := HN.out; omega)
      have HDRP : Hid (∀ W, Kept (fun _ => False) w0 W → Strs W vd (xs.drop k)) := fun W hk2 => hds W (HS.out.kept hk2 (fun _ _ h => h))
      have l2 : (k : Int) ≤ (n : Int) := by omega
      have l3 : (k : Int) ≤ (c : Int) := by omega
      have HRD := Lib.hid hrd
      clear hds hidx hrd
      obtain ⟨i, hik⟩ : ∃ i, i = k := ⟨_, rfl⟩
      rcases hcase with ⟨hlt, hd⟩ | rfl
      · have l1 : (k : Int) < (n : Int) := by omega
        obtain ⟨g2, off2, e2, _, hcell⟩ := (HS.out.kept hkw.out (fun _ _ h => h)).at (k := k) (by have := HN.out; omega)
        cases e2
        have hxz := HZ.out (xs.getD k ⟨#[]⟩) (by rw [List.getD_eq_getElem?_getD, List.getElem?_eq_getElem (by have := HN.out; omega)]; exact List.getElem_mem _)
        have hL := less_any (xs.getD k ⟨#[]⟩) p hxz hp wr
        rw [hd] at hL
        have HL := Lib.hid hL
        clear hL hd hxz
        generalize xs.getD k ⟨#[]⟩ = x at hcell HL
        go_wp2_with fail
        refine HL.out.mono ?_
        rintro e we ⟨rfl, k2⟩
        have KE := Lib.hid (hkw.out.then k2)
        clear k2 HL hcell
        go_wp2_with fail
        subst hik
        have hrd := HRD.out
        refine wp_region_any (by kernel_rfl) ?_
        try (change wpAny _ _ _ _ _ _ _ (World.drew _))
        have KD := Lib.hid (KE.out.drew)
        generalize we.drew = Wd at KD ⊢
        refine wpAny_take (i := 1) (v := .slice (some ⟨g, off, none⟩) n c) rfl (by kernel_rfl) (by kernel_rfl) (by kernel_rfl) (fun _ _ _ h => h) (Or.inl ⟨by simp [Region.wanted, yielded], fun W => by go_simp⟩) ?_
        try (simp only [Act.put, List.getElem_toArray, List.getElem_cons_succ, List.getElem_cons_zero, List.setIfInBounds_toArray, List.set_cons_zero, List.set_cons_succ])
        refine wpAny_take (i := 2) (v := .int .i64 i) rfl (by kernel_rfl) (by kernel_rfl) (by kernel_rfl) (fun _ _ _ h => h) (Or.inl ⟨by simp [Region.wanted, yielded], fun W => by go_simp⟩) ?_
        try (simp only [Act.put, List.getElem_toArray, List.getElem_cons_succ, List.getElem_cons_zero, List.setIfInBounds_toArray, List.set_cons_zero, List.set_cons_succ])
        refine wpAny_take (i := 3) (v := .slice (some ⟨g, off, none⟩) i c) rfl (by kernel_rfl) (by kernel_rfl) (by kernel_rfl) (fun _ _ _ h => h) (Or.inl ⟨by simp [Region.wanted, yielded], fun W => by go_simp⟩) ?_
        try (simp only [Act.put, List.getElem_toArray, List.getElem_cons_succ, List.getElem_cons_zero, List.setIfInBounds_toArray, List.set_cons_zero, List.set_cons_succ])
        refine wpAny_take (i := 5) (v := .string p) rfl (by kernel_rfl) (by kernel_rfl) (by kernel_rfl) (fun _ _ _ h => h) (Or.inl ⟨by simp [Region.wanted, yielded], fun W => by go_simp⟩) ?_
        try (simp only [Act.put, List.getElem_toArray, List.getElem_cons_succ, List.getElem_cons_zero, List.setIfInBounds_toArray, List.set_cons_zero, List.set_cons_succ])
        refine wpAny_take (i := 8) (v := .slice (some ⟨g, off, none⟩) n c) rfl (by kernel_rfl) (by kernel_rfl) (by kernel_rfl) (fun _ _ _ h => h) (Or.inl ⟨by simp [Region.wanted, yielded], fun W => by go_simp⟩) ?_
        try (simp only [Act.put, List.getElem_toArray, List.getElem_cons_succ, List.getElem_cons_zero, List.setIfInBounds_toArray, List.set_cons_zero, List.set_cons_succ])
        refine wpAny_take (i := 9) (v := .int .i64 i) rfl (by kernel_rfl) (by kernel_rfl) (by kernel_rfl) (fun _ _ _ h => h) (Or.inl ⟨by simp [Region.wanted, yielded], fun W => by go_simp⟩) ?_
        try (simp only [Act.put, List.getElem_toArray, List.getElem_cons_succ, List.getElem_cons_zero, List.setIfInBounds_toArray, List.set_cons_zero, List.set_cons_succ])
        refine wpAny_take (i := 10) (v := vd) rfl (by kernel_rfl) (by kernel_rfl) (by kernel_rfl) (fun _ _ _ h => h) (Or.inl ⟨by simp [Region.wanted, yielded], fun W => by first | exact hrd W | (simp [execOp, hrd]; done) | go_simp⟩) ?_
        try (simp only [Act.put, List.getElem_toArray, List.getElem_cons_succ, List.getElem_cons_zero, List.setIfInBounds_toArray, List.set_cons_zero, List.set_cons_succ])
        refine wpAny_ready (rs := [0, 6]) (by kernel_rfl) (by simp) ?_
        refine AllReady.cons (o := _) rfl (fun KK hKK => ?_) (AllReady.cons (o := _) rfl (fun KK hKK => ?_) AllReady.nil)
        · rw [if_pos (by simp [Region.wanted, yielded])]
          go_simp
          refine hKK _ _ ?_
          clear hKK KK
          try (simp only [Act.put, List.getElem_toArray, List.getElem_cons_succ, List.getElem_cons_zero, List.setIfInBounds_toArray, List.set_cons_zero, List.set_cons_succ])
          have hk1 := Kept.alloc (fun _ => False) Wd (.cells #[] 9)
          have E1 := Lib.hid (owns_newS Wd)
          have K1 := Lib.hid (KD.out.then hk1)
          have B1 : w0.heap.size ≤ Wd.heap.size := KD.out.size
          generalize hg1 : Wd.alloc (.cells #[] 9) = Wx1 at E1 K1  ⊢
          clear hk1 hg1
          generalize hb1 : Wd.heap.size = gb1 at E1 B1 ⊢
          have EL1 := Lib.hid (E1.out.low B1)
          clear hb1
          refine wpAny_ready (rs := [4, 6]) (by kernel_rfl) (by simp) ?_
          refine AllReady.cons (o := _) rfl (fun KK hKK => ?_) (AllReady.cons (o := _) rfl (fun KK hKK => ?_) AllReady.nil)
          · refine step_append_strs (by rfl) _ _ (by rfl) (by rfl) w0.heap.size (.slice (some ⟨gb1, 0, none⟩) 0 0) (.slice (some ⟨g, off, none⟩) i c) ([]) (xs.take i) (by rfl) (by rfl) EL1.out (HCUT.out _ K1.out) (by have := HXL.out; simp; omega) (by have := K1.out.size; omega) ?_
            intro a2 c2 w2 ho2 hk2
            generalize ([] ++ (xs.take i)).length = L2 at ho2 ⊢
            have E2 := Lib.hid ho2
            have K2 := Lib.hid (K1.out.trans hk2 (T := fun _ => False) (fun _ _ h => h) (fun i hi e => by have := EL1.out.lt i e; omega))
            clear ho2 hk2
            refine hKK _ _ ?_
            clear hKK KK
            try (simp only [Act.put, List.getElem_toArray, List.getElem_cons_succ, List.getElem_cons_zero, List.setIfInBounds_toArray, List.set_cons_zero, List.set_cons_succ])
            refine wpAny_ready (rs := [6]) (by kernel_rfl) (by simp) ?_
            refine AllReady.cons (o := _) rfl (fun KK hKK => ?_) AllReady.nil
            rw [if_pos (by simp [Region.wanted, yielded])]
            go_simp
            refine hKK _ _ ?_
            clear hKK KK
            try (simp only [Act.put, List.getElem_toArray, List.getElem_cons_succ, List.getElem_cons_zero, List.setIfInBounds_toArray, List.set_cons_zero, List.set_cons_succ])
            have hk3 := Kept.alloc (fun _ => False) w2 (.cells #[.string p] 9)
            have P3 := Lib.hid (strs_new w2 #[.string p] 9 1 [p] rfl rfl (by unfold maxLen; omega))
            have K3 := Lib.hid (K2.out.then hk3)
            have E3 := Lib.hid (E2.out.kept hk3 (fun _ _ h => h))
            generalize hg3 : w2.alloc (.cells #[.string p] 9) = Wx3 at P3 K3 E3 ⊢
            clear hk3 hg3
            generalize hb3 : w2.heap.size = gb3 at P3 ⊢
            clear hb3
            refine wpAny_ready (rs := [7]) (by kernel_rfl) (by simp) ?_
            refine AllReady.cons (o := _) rfl (fun KK hKK => ?_) AllReady.nil
            refine step_append_strs (by rfl) _ _ (by rfl) (by rfl) w0.heap.size (.slice a2 L2 c2) (.slice (some ⟨gb3, 0, none⟩) 1 1) (([] ++ (xs.take i))) [p] (by rfl) (by rfl) E3.out P3.out (by have := HXL.out; simp; omega) (by have := K3.out.size; omega) ?_
            intro a4 c4 w4 ho4 hk4
            generalize (([] ++ (xs.take i)) ++ [p]).length = L4 at ho4 ⊢
            have E4 := Lib.hid ho4
            have K4 := Lib.hid (K3.out.trans hk4 (T := fun _ => False) (fun _ _ h => h) (fun i hi e => by have := E3.out.lt i e; omega))
            clear ho4 hk4
            refine hKK _ _ ?_
            clear hKK KK
            try (simp only [Act.put, List.getElem_toArray, List.getElem_cons_succ, List.getElem_cons_zero, List.setIfInBounds_toArray, List.set_cons_zero, List.set_cons_succ])
            refine wpAny_ready (rs := [11]) (by kernel_rfl) (by simp) ?_
            refine AllReady.cons (o := _) rfl (fun KK hKK => ?_) AllReady.nil
            refine step_append_strs (by rfl) _ _ (by rfl) (by rfl) w0.heap.size (.slice a4 L4 c4) (vd) ((([] ++ (xs.take i)) ++ [p])) (xs.drop i) (by rfl) (by rfl) E4.out (HDRP.out _ K4.out) (by have := HXL.out; simp; omega) (by have := K4.out.size; omega) ?_
            intro a5 c5 w5 ho5 hk5
            generalize ((([] ++ (xs.take i)) ++ [p]) ++ (xs.drop i)).length = L5 at ho5 ⊢
            have E5 := Lib.hid ho5
            have K5 := Lib.hid (K4.out.trans hk5 (T := fun _ => False) (fun _ _ h => h) (fun i hi e => by have := E4.out.lt i e; omega))
            clear ho5 hk5
            refine hKK _ _ ?_
            clear hKK KK
            try (simp only [Act.put, List.getElem_toArray, List.getElem_cons_succ, List.getElem_cons_zero, List.setIfInBounds_toArray, List.set_cons_zero, List.set_cons_succ])
            refine wpAny_ready (rs := [12]) (by kernel_rfl) (by simp) ?_
            refine AllReady.cons (o := _) rfl (fun KK hKK => ?_) AllReady.nil
            rw [if_pos (by simp [Region.wanted, yielded])]
            go_simp
            refine hKK _ _ ?_
            clear hKK KK
            try (simp only [Act.put, List.getElem_toArray, List.getElem_cons_succ, List.getElem_cons_zero, List.setIfInBounds_toArray, List.set_cons_zero, List.set_cons_succ])
            refine wpAny_done (by kernel_rfl) ?_ _
            have KF := Lib.hid (K5.out)
            have OF := Lib.hid (E5.out)
            clear HCUT HDRP
            go_wp2_with fail
            go_ret
            exact ⟨_, rfl, by rw [HRES.out]; exact Strs.ofOwn OF.out, KF.out⟩
          · rw [if_pos (by simp [Region.wanted, yielded])]
            go_simp
            refine hKK _ _ ?_
            clear hKK KK
            try (simp only [Act.put, List.getElem_toArray, List.getElem_cons_succ, List.getElem_cons_zero, List.setIfInBounds_toArray, List.set_cons_zero, List.set_cons_succ])
            have hk7 := Kept.alloc (fun _ => False) Wx1 (.cells #[.string p] 9)
            have P7 := Lib.hid (strs_new Wx1 #[.string p] 9 1 [p] rfl rfl (by unfold maxLen; omega))
            have K7 := Lib.hid (K1.out.then hk7)
            have E7 := Lib.hid (EL1.out.kept hk7 (fun _ _ h => h))
            generalize hg7 : Wx1.alloc (.cells #[.string p] 9) = Wx7 at P7 K7 E7 ⊢
            clear hk7 hg7
            have hne7 : Wx1.heap.size ≠ gb1 := by have := (EL1.out.bound gb1 rfl).2; omega
            generalize hb7 : Wx1.heap.size = gb7 at P7 hne7 ⊢
            clear hb7
            refine wpAny_ready (rs := [4]) (by kernel_rfl) (by simp) ?_
            refine AllReady.cons (o := _) rfl (fun KK hKK => ?_) AllReady.nil
            refine step_append_strs (by rfl) _ _ (by rfl) (by rfl) w0.heap.size (.slice (some ⟨gb1, 0, none⟩) 0 0) (.slice (some ⟨g, off, none⟩) i c) ([]) (xs.take i) (by rfl) (by rfl) E7.out (HCUT.out _ K7.out) (by have := HXL.out; simp; omega) (by have := K7.out.size; omega) ?_
            intro a8 c8 w8 ho8 hk8
            generalize ([] ++ (xs.take i)).length = L8 at ho8 ⊢
            have E8 := Lib.hid ho8
            have K8 := Lib.hid (K7.out.trans hk8 (T := fun _ => False) (fun _ _ h => h) (fun i hi e => by have := E7.out.lt i e; omega))
            have P8 := Lib.hid (P7.out.kept hk8 (fun j hj e => by simp [Value.ownBlock] at e hj; omega))
            clear ho8 hk8
            refine hKK _ _ ?_
            clear hKK KK
            try (simp only [Act.put, List.getElem_toArray, List.getElem_cons_succ, List.getElem_cons_zero, List.setIfInBounds_toArray, List.set_cons_zero, List.set_cons_succ])
            refine wpAny_ready (rs := [7]) (by kernel_rfl) (by simp) ?_
            refine AllReady.cons (o := _) rfl (fun KK hKK => ?_) AllReady.nil
            refine step_append_strs (by rfl) _ _ (by rfl) (by rfl) w0.heap.size (.slice a8 L8 c8) (.slice (some ⟨gb7, 0, none⟩) 1 1) (([] ++ (xs.take i))) [p] (by rfl) (by rfl) E8.out P8.out (by have := HXL.out; simp; omega) (by have := K8.out.size; omega) ?_
            intro a9 c9 w9 ho9 hk9
            generalize (([] ++ (xs.take i)) ++ [p]).length = L9 at ho9 ⊢
            have E9 := Lib.hid ho9
            have K9 := Lib.hid (K8.out.trans hk9 (T := fun _ => False) (fun _ _ h => h) (fun i hi e => by have := E8.out.lt i e; omega))
            clear ho9 hk9
            refine hKK _ _ ?_
            clear hKK KK
            try (simp only [Act.put, List.getElem_toArray, List.getElem_cons_succ, List.getElem_cons_zero, List.setIfInBounds_toArray, List.set_cons_zero, List.set_cons_succ])
            refine wpAny_ready (rs := [11]) (by kernel_rfl) (by simp) ?_
            refine AllReady.cons (o := _) rfl (fun KK hKK => ?_) AllReady.nil
            refine step_append_strs (by rfl) _ _ (by rfl) (by rfl) w0.heap.size (.slice a9 L9 c9) (vd) ((([] ++ (xs.take i)) ++ [p])) (xs.drop i) (by rfl) (by rfl) E9.out (HDRP.out _ K9.out) (by have := HXL.out; simp; omega) (by have := K9.out.size; omega) ?_
            intro a10 c10 w10 ho10 hk10
            generalize ((([] ++ (xs.take i)) ++ [p]) ++ (xs.drop i)).length = L10 at ho10 ⊢
            have E10 := Lib.hid ho10
            have K10 := Lib.hid (K9.out.trans hk10 (T := fun _ => False) (fun _ _ h => h) (fun i hi e => by have := E9.out.lt i e; omega))
            clear ho10 hk10
            refine hKK _ _ ?_
            clear hKK KK
            try (simp only [Act.put, List.getElem_toArray, List.getElem_cons_succ, List.getElem_cons_zero, List.setIfInBounds_toArray, List.set_cons_zero, List.set_cons_succ])
            refine wpAny_ready (rs := [12]) (by kernel_rfl) (by simp) ?_
            refine AllReady.cons (o := _) rfl (fun KK hKK => ?_) AllReady.nil
            rw [if_pos (by simp [Region.wanted, yielded])]
            go_simp
            refine hKK _ _ ?_
            clear hKK KK
            try (simp only [Act.put, List.getElem_toArray, List.getElem_cons_succ, List.getElem_cons_zero, List.setIfInBounds_toArray, List.set_cons_zero, List.set_cons_succ])
            refine wpAny_done (by kernel_rfl) ?_ _
            have KF := Lib.hid (K10.out)
            have OF := Lib.hid (E10.out)
            clear HCUT HDRP
            go_wp2_with fail
            go_ret
            exact ⟨_, rfl, by rw [HRES.out]; exact Strs.ofOwn OF.out, KF.out⟩
        · rw [if_pos (by simp [Region.wanted, yielded])]
          go_simp
          refine hKK _ _ ?_
          clear hKK KK
          try (simp only [Act.put, List.getElem_toArray, List.getElem_cons_succ, List.getElem_cons_zero, List.setIfInBounds_toArray, List.set_cons_zero, List.set_cons_succ])
          have hk12 := Kept.alloc (fun _ => False) Wd (.cells #[.string p] 9)
          have P12 := Lib.hid (strs_new Wd #[.string p] 9 1 [p] rfl rfl (by unfold maxLen; omega))
          have K12 := Lib.hid (KD.out.then hk12)
          generalize hg12 : Wd.alloc (.cells #[.string p] 9) = Wx12 at P12 K12  ⊢
          clear hk12 hg12
          generalize hb12 : Wd.heap.size = gb12 at P12 ⊢
          clear hb12
          refine wpAny_ready (rs := [0]) (by kernel_rfl) (by simp) ?_
          refine AllReady.cons (o := _) rfl (fun KK hKK => ?_) AllReady.nil
          rw [if_pos (by simp [Region.wanted, yielded])]
          go_simp
          refine hKK _ _ ?_
          clear hKK KK
          try (simp only [Act.put, List.getElem_toArray, List.getElem_cons_succ, List.getElem_cons_zero, List.setIfInBounds_toArray, List.set_cons_zero, List.set_cons_succ])
          have hk13 := Kept.alloc (fun _ => False) Wx12 (.cells #[] 9)
          have E13 := Lib.hid (owns_newS Wx12)
          have K13 := Lib.hid (K12.out.then hk13)
          have B13 : w0.heap.size ≤ Wx12.heap.size := K12.out.size
          have P13 := Lib.hid (P12.out.kept hk13 (fun _ _ h => h))
          generalize hg13 : Wx12.alloc (.cells #[] 9) = Wx13 at E13 K13 P13 ⊢
          clear hk13 hg13
          have hne13 : gb12 ≠ Wx12.heap.size := by
            obtain ⟨g9, o9, e9, hl9, _⟩ := P12.out.at (k := 0) (by simp)
            cases e9
            omega
          generalize hb13 : Wx12.heap.size = gb13 at E13 B13 hne13 ⊢
          have EL13 := Lib.hid (E13.out.low B13)
          clear hb13
          refine wpAny_ready (rs := [4]) (by kernel_rfl) (by simp) ?_
          refine AllReady.cons (o := _) rfl (fun KK hKK => ?_) AllReady.nil
          refine step_append_strs (by rfl) _ _ (by rfl) (by rfl) w0.heap.size (.slice (some ⟨gb13, 0, none⟩) 0 0) (.slice (some ⟨g, off, none⟩) i c) ([]) (xs.take i) (by rfl) (by rfl) EL13.out (HCUT.out _ K13.out) (by have := HXL.out; simp; omega) (by have := K13.out.size; omega) ?_
          intro a14 c14 w14 ho14 hk14
          generalize ([] ++ (xs.take i)).length = L14 at ho14 ⊢
          have E14 := Lib.hid ho14
          have K14 := Lib.hid (K13.out.trans hk14 (T := fun _ => False) (fun _ _ h => h) (fun i hi e => by have := EL13.out.lt i e; omega))
          have P14 := Lib.hid (P13.out.kept hk14 (fun j hj e => by simp [Value.ownBlock] at e hj; omega))
          clear ho14 hk14
          refine hKK _ _ ?_
          clear hKK KK
          try (simp only [Act.put, List.getElem_toArray, List.getElem_cons_succ, List.getElem_cons_zero, List.setIfInBounds_toArray, List.set_cons_zero, List.set_cons_succ])
          refine wpAny_ready (rs := [7]) (by kernel_rfl) (by simp) ?_
          refine AllReady.cons (o := _) rfl (fun KK hKK => ?_) AllReady.nil
          refine step_append_strs (by rfl) _ _ (by rfl) (by rfl) w0.heap.size (.slice a14 L14 c14) (.slice (some ⟨gb12, 0, none⟩) 1 1) (([] ++ (xs.take i))) [p] (by rfl) (by rfl) E14.out P14.out (by have := HXL.out; simp; omega) (by have := K14.out.size; omega) ?_
          intro a15 c15 w15 ho15 hk15
          generalize (([] ++ (xs.take i)) ++ [p]).length = L15 at ho15 ⊢
          have E15 := Lib.hid ho15
          have K15 := Lib.hid (K14.out.trans hk15 (T := fun _ => False) (fun _ _ h => h) (fun i hi e => by have := E14.out.lt i e; omega))
          clear ho15 hk15
          refine hKK _ _ ?_
          clear hKK KK
          try (simp only [Act.put, List.getElem_toArray, List.getElem_cons_succ, List.getElem_cons_zero, List.setIfInBounds_toArray, List.set_cons_zero, List.set_cons_succ])
          refine wpAny_ready (rs := [11]) (by kernel_rfl) (by simp) ?_
          refine AllReady.cons (o := _) rfl (fun KK hKK => ?_) AllReady.nil
          refine step_append_strs (by rfl) _ _ (by rfl) (by rfl) w0.heap.size (.slice a15 L15 c15) (vd) ((([] ++ (xs.take i)) ++ [p])) (xs.drop i) (by rfl) (by rfl) E15.out (HDRP.out _ K15.out) (by have := HXL.out; simp; omega) (by have := K15.out.size; omega) ?_
          intro a16 c16 w16 ho16 hk16
          generalize ((([] ++ (xs.take i)) ++ [p]) ++ (xs.drop i)).length = L16 at ho16 ⊢
          have E16 := Lib.hid ho16
          have K16 := Lib.hid (K15.out.trans hk16 (T := fun _ => False) (fun _ _ h => h) (fun i hi e => by have := E15.out.lt i e; omega))
          clear ho16 hk16
          refine hKK _ _ ?_
          clear hKK KK
          try (simp only [Act.put, List.getElem_toArray, List.getElem_cons_succ, List.getElem_cons_zero, List.setIfInBounds_toArray, List.set_cons_zero, List.set_cons_succ])
          refine wpAny_ready (rs := [12]) (by kernel_rfl) (by simp) ?_
          refine AllReady.cons (o := _) rfl (fun KK hKK => ?_) AllReady.nil
          rw [if_pos (by simp [Region.wanted, yielded])]
          go_simp
          refine hKK _ _ ?_
          clear hKK KK
          try (simp only [Act.put, List.getElem_toArray, List.getElem_cons_succ, List.getElem_cons_zero, List.setIfInBounds_toArray, List.set_cons_zero, List.set_cons_succ])
          refine wpAny_done (by kernel_rfl) ?_ _
          have KF := Lib.hid (K16.out)
          have OF := Lib.hid (E16.out)
          clear HCUT HDRP
          go_wp2_with fail
          go_ret
          exact ⟨_, rfl, by rw [HRES.out]; exact Strs.ofOwn OF.out, KF.out⟩
      · have l1 : ¬ (k : Int) < (k : Int) := by omega
        obtain ⟨we, hwe⟩ : ∃ we : World, we = wr := ⟨_, rfl⟩
        rw [← hwe] at hkw ⊢
        have KE := hkw
        clear hwe
        go_wp2_with fail
        subst hik
        have hrd := HRD.out
        refine wp_region_any (by kernel_rfl) ?_
        try (change wpAny _ _ _ _ _ _ _ (World.drew _))
        have KD := Lib.hid (KE.out.drew)
        generalize we.drew = Wd at KD ⊢
        refine wpAny_take (i := 1) (v := .slice (some ⟨g, off, none⟩) i c) rfl (by kernel_rfl) (by kernel_rfl) (by kernel_rfl) (fun _ _ _ h => h) (Or.inl ⟨by simp [Region.wanted, yielded], fun W => by go_simp⟩) ?_
        try (simp only [Act.put, List.getElem_toArray, List.getElem_cons_succ, List.getElem_cons_zero, List.setIfInBounds_toArray, List.set_cons_zero, List.set_cons_succ])
        refine wpAny_take (i := 2) (v := .int .i64 i) rfl (by kernel_rfl) (by kernel_rfl) (by kernel_rfl) (fun _ _ _ h => h) (Or.inl ⟨by simp [Region.wanted, yielded], fun W => by go_simp⟩) ?_
        try (simp only [Act.put, List.getElem_toArray, List.getElem_cons_succ, List.getElem_cons_zero, List.setIfInBounds_toArray, List.set_cons_zero, List.set_cons_succ])
        refine wpAny_take (i := 3) (v := .slice (some ⟨g, off, none⟩) i c) rfl (by kernel_rfl) (by kernel_rfl) (by kernel_rfl) (fun _ _ _ h => h) (Or.inl ⟨by simp [Region.wanted, yielded], fun W => by go_simp⟩) ?_
        try (simp only [Act.put, List.getElem_toArray, List.getElem_cons_succ, List.getElem_cons_zero, List.setIfInBounds_toArray, List.set_cons_zero, List.set_cons_succ])
        refine wpAny_take (i := 5) (v := .string p) rfl (by kernel_rfl) (by kernel_rfl) (by kernel_rfl) (fun _ _ _ h => h) (Or.inl ⟨by simp [Region.wanted, yielded], fun W => by go_simp⟩) ?_
        try (simp only [Act.put, List.getElem_toArray, List.getElem_cons_succ, List.getElem_cons_zero, List.setIfInBounds_toArray, List.set_cons_zero, List.set_cons_succ])
        refine wpAny_take (i := 8) (v := .slice (some ⟨g, off, none⟩) i c) rfl (by kernel_rfl) (by kernel_rfl) (by kernel_rfl) (fun _ _ _ h => h) (Or.inl ⟨by simp [Region.wanted, yielded], fun W => by go_simp⟩) ?_
        try (simp only [Act.put, List.getElem_toArray, List.getElem_cons_succ, List.getElem_cons_zero, List.setIfInBounds_toArray, List.set_cons_zero, List.set_cons_succ])
        refine wpAny_take (i := 9) (v := .int .i64 i) rfl (by kernel_rfl) (by kernel_rfl) (by kernel_rfl) (fun _ _ _ h => h) (Or.inl ⟨by simp [Region.wanted, yielded], fun W => by go_simp⟩) ?_
        try (simp only [Act.put, List.getElem_toArray, List.getElem_cons_succ, List.getElem_cons_zero, List.setIfInBounds_toArray, List.set_cons_zero, List.set_cons_succ])
        refine wpAny_take (i := 10) (v := vd) rfl (by kernel_rfl) (by kernel_rfl) (by kernel_rfl) (fun _ _ _ h => h) (Or.inl ⟨by simp [Region.wanted, yielded], fun W => by first | exact hrd W | (simp [execOp, hrd]; done) | go_simp⟩) ?_
        try (simp only [Act.put, List.getElem_toArray, List.getElem_cons_succ, List.getElem_cons_zero, List.setIfInBounds_toArray, List.set_cons_zero, List.set_cons_succ])
        refine wpAny_ready (rs := [0, 6]) (by kernel_rfl) (by simp) ?_
        refine AllReady.cons (o := _) rfl (fun KK hKK => ?_) (AllReady.cons (o := _) rfl (fun KK hKK => ?_) AllReady.nil)
        · rw [if_pos (by simp [Region.wanted, yielded])]
          go_simp
          refine hKK _ _ ?_
          clear hKK KK
          try (simp only [Act.put, List.getElem_toArray, List.getElem_cons_succ, List.getElem_cons_zero, List.setIfInBounds_toArray, List.set_cons_zero, List.set_cons_succ])
          have hk1 := Kept.alloc (fun _ => False) Wd (.cells #[] 9)
          have E1 := Lib.hid (owns_newS Wd)
          have K1 := Lib.hid (KD.out.then hk1)
          have B1 : w0.heap.size ≤ Wd.heap.size := KD.out.size
          generalize hg1 : Wd.alloc (.cells #[] 9) = Wx1 at E1 K1  ⊢
          clear hk1 hg1
          generalize hb1 : Wd.heap.size = gb1 at E1 B1 ⊢
          have EL1 := Lib.hid (E1.out.low B1)
          clear hb1
          refine wpAny_ready (rs := [4, 6]) (by kernel_rfl) (by simp) ?_
          refine AllReady.cons (o := _) rfl (fun KK hKK => ?_) (AllReady.cons (o := _) rfl (fun KK hKK => ?_) AllReady.nil)
          · refine step_append_strs (by rfl) _ _ (by rfl) (by rfl) w0.heap.size (.slice (some ⟨gb1, 0, none⟩) 0 0) (.slice (some ⟨g, off, none⟩) i c) ([]) (xs.take i) (by rfl) (by rfl) EL1.out (HCUT.out _ K1.out) (by have := HXL.out; simp; omega) (by have := K1.out.size; omega) ?_
            intro a2 c2 w2 ho2 hk2
            generalize ([] ++ (xs.take i)).length = L2 at ho2 ⊢
            have E2 := Lib.hid ho2
            have K2 := Lib.hid (K1.out.trans hk2 (T := fun _ => False) (fun _ _ h => h) (fun i hi e => by have := EL1.out.lt i e; omega))
            clear ho2 hk2
            refine hKK _ _ ?_
            clear hKK KK
            try (simp only [Act.put, List.getElem_toArray, List.getElem_cons_succ, List.getElem_cons_zero, List.setIfInBounds_toArray, List.set_cons_zero, List.set_cons_succ])
            refine wpAny_ready (rs := [6]) (by kernel_rfl) (by simp) ?_
            refine AllReady.cons (o := _) rfl (fun KK hKK => ?_) AllReady.nil
            rw [if_pos (by simp [Region.wanted, yielded])]
            go_simp
            refine hKK _ _ ?_
            clear hKK KK
            try (simp only [Act.put, List.getElem_toArray, List.getElem_cons_succ, List.getElem_cons_zero, List.setIfInBounds_toArray, List.set_cons_zero, List.set_cons_succ])
            have hk3 := Kept.alloc (fun _ => False) w2 (.cells #[.string p] 9)
            have P3 := Lib.hid (strs_new w2 #[.string p] 9 1 [p] rfl rfl (by unfold maxLen; omega))
            have K3 := Lib.hid (K2.out.then hk3)
            have E3 := Lib.hid (E2.out.kept hk3 (fun _ _ h => h))
            generalize hg3 : w2.alloc (.cells #[.string p] 9) = Wx3 at P3 K3 E3 ⊢
            clear hk3 hg3
            generalize hb3 : w2.heap.size = gb3 at P3 ⊢
            clear hb3
            refine wpAny_ready (rs := [7]) (by kernel_rfl) (by simp) ?_
            refine AllReady.cons (o := _) rfl (fun KK hKK => ?_) AllReady.nil
            refine step_append_strs (by rfl) _ _ (by rfl) (by rfl) w0.heap.size (.slice a2 L2 c2) (.slice (some ⟨gb3, 0, none⟩) 1 1) (([] ++ (xs.take i))) [p] (by rfl) (by rfl) E3.out P3.out (by have := HXL.out; simp; omega) (by have := K3.out.size; omega) ?_
            intro a4 c4 w4 ho4 hk4
            generalize (([] ++ (xs.take i)) ++ [p]).length = L4 at ho4 ⊢
            have E4 := Lib.hid ho4
            have K4 := Lib.hid (K3.out.trans hk4 (T := fun _ => False) (fun _ _ h => h) (fun i hi e => by have := E3.out.lt i e; omega))
            clear ho4 hk4
            refine hKK _ _ ?_
            clear hKK KK
            try (simp only [Act.put, List.getElem_toArray, List.getElem_cons_succ, List.getElem_cons_zero, List.setIfInBounds_toArray, List.set_cons_zero, List.set_cons_succ])
            refine wpAny_ready (rs := [11]) (by kernel_rfl) (by simp) ?_
            refine AllReady.cons (o := _) rfl (fun KK hKK => ?_) AllReady.nil
            refine step_append_strs (by rfl) _ _ (by rfl) (by rfl) w0.heap.size (.slice a4 L4 c4) (vd) ((([] ++ (xs.take i)) ++ [p])) (xs.drop i) (by rfl) (by rfl) E4.out (HDRP.out _ K4.out) (by have := HXL.out; simp; omega) (by have := K4.out.size; omega) ?_
            intro a5 c5 w5 ho5 hk5
            generalize ((([] ++ (xs.take i)) ++ [p]) ++ (xs.drop i)).length = L5 at ho5 ⊢
            have E5 := Lib.hid ho5
            have K5 := Lib.hid (K4.out.trans hk5 (T := fun _ => False) (fun _ _ h => h) (fun i hi e => by have := E4.out.lt i e; omega))
            clear ho5 hk5
            refine hKK _ _ ?_
            clear hKK KK
            try (simp only [Act.put, List.getElem_toArray, List.getElem_cons_succ, List.getElem_cons_zero, List.setIfInBounds_toArray, List.set_cons_zero, List.set_cons_succ])
            refine wpAny_ready (rs := [12]) (by kernel_rfl) (by simp) ?_
            refine AllReady.cons (o := _) rfl (fun KK hKK => ?_) AllReady.nil
            rw [if_pos (by simp [Region.wanted, yielded])]
            go_simp
            refine hKK _ _ ?_
            clear hKK KK
            try (simp only [Act.put, List.getElem_toArray, List.getElem_cons_succ, List.getElem_cons_zero, List.setIfInBounds_toArray, List.set_cons_zero, List.set_cons_succ])
            refine wpAny_done (by kernel_rfl) ?_ _
            have KF := Lib.hid (K5.out)
            have OF := Lib.hid (E5.out)
            clear HCUT HDRP
            go_wp2_with fail
            go_ret
            exact ⟨_, rfl, by rw [HRES.out]; exact Strs.ofOwn OF.out, KF.out⟩
          · rw [if_pos (by simp [Region.wanted, yielded])]
            go_simp
            refine hKK _ _ ?_
            clear hKK KK
            try (simp only [Act.put, List.getElem_toArray, List.getElem_cons_succ, List.getElem_cons_zero, List.setIfInBounds_toArray, List.set_cons_zero, List.set_cons_succ])
            have hk7 := Kept.alloc (fun _ => False) Wx1 (.cells #[.string p] 9)
            have P7 := Lib.hid (strs_new Wx1 #[.string p] 9 1 [p] rfl rfl (by unfold maxLen; omega))
            have K7 := Lib.hid (K1.out.then hk7)
            have E7 := Lib.hid (EL1.out.kept hk7 (fun _ _ h => h))
            generalize hg7 : Wx1.alloc (.cells #[.string p] 9) = Wx7 at P7 K7 E7 ⊢
            clear hk7 hg7
            have hne7 : Wx1.heap.size ≠ gb1 := by have := (EL1.out.bound gb1 rfl).2; omega
            generalize hb7 : Wx1.heap.size = gb7 at P7 hne7 ⊢
            clear hb7
            refine wpAny_ready (rs := [4]) (by kernel_rfl) (by simp) ?_
            refine AllReady.cons (o := _) rfl (fun KK hKK => ?_) AllReady.nil
            refine step_append_strs (by rfl) _ _ (by rfl) (by rfl) w0.heap.size (.slice (some ⟨gb1, 0, none⟩) 0 0) (.slice (some ⟨g, off, none⟩) i c) ([]) (xs.take i) (by rfl) (by rfl) E7.out (HCUT.out _ K7.out) (by have := HXL.out; simp; omega) (by have := K7.out.size; omega) ?_
            intro a8 c8 w8 ho8 hk8
            generalize ([] ++ (xs.take i)).length = L8 at ho8 ⊢
            have E8 := Lib.hid ho8
            have K8 := Lib.hid (K7.out.trans hk8 (T := fun _ => False) (fun _ _ h => h) (fun i hi e => by have := E7.out.lt i e; omega))
            have P8 := Lib.hid (P7.out.kept hk8 (fun j hj e => by simp [Value.ownBlock] at e hj; omega))
            clear ho8 hk8
            refine hKK _ _ ?_
            clear hKK KK
            try (simp only [Act.put, List.getElem_toArray, List.getElem_cons_succ, List.getElem_cons_zero, List.setIfInBounds_toArray, List.set_cons_zero, List.set_cons_succ])
            refine wpAny_ready (rs := [7]) (by kernel_rfl) (by simp) ?_
            refine AllReady.cons (o := _) rfl (fun KK hKK => ?_) AllReady.nil
            refine step_append_strs (by rfl) _ _ (by rfl) (by rfl) w0.heap.size (.slice a8 L8 c8) (.slice (some ⟨gb7, 0, none⟩) 1 1) (([] ++ (xs.take i))) [p] (by rfl) (by rfl) E8.out P8.out (by have := HXL.out; simp; omega) (by have := K8.out.size; omega) ?_
            intro a9 c9 w9 ho9 hk9
            generalize (([] ++ (xs.take i)) ++ [p]).length = L9 at ho9 ⊢
            have E9 := Lib.hid ho9
            have K9 := Lib.hid (K8.out.trans hk9 (T := fun _ => False) (fun _ _ h => h) (fun i hi e => by have := E8.out.lt i e; omega))
            clear ho9 hk9
            refine hKK _ _ ?_
            clear hKK KK
            try (simp only [Act.put, List.getElem_toArray, List.getElem_cons_succ, List.getElem_cons_zero, List.setIfInBounds_toArray, List.set_cons_zero, List.set_cons_succ])
            refine wpAny_ready (rs := [11]) (by kernel_rfl) (by simp) ?_
            refine AllReady.cons (o := _) rfl (fun KK hKK => ?_) AllReady.nil
            refine step_append_strs (by rfl) _ _ (by rfl) (by rfl) w0.heap.size (.slice a9 L9 c9) (vd) ((([] ++ (xs.take i)) ++ [p])) (xs.drop i) (by rfl) (by rfl) E9.out (HDRP.out _ K9.out) (by have := HXL.out; simp; omega) (by have := K9.out.size; omega) ?_
            intro a10 c10 w10 ho10 hk10
            generalize ((([] ++ (xs.take i)) ++ [p]) ++ (xs.drop i)).length = L10 at ho10 ⊢
            have E10 := Lib.hid ho10
            have K10 := Lib.hid (K9.out.trans hk10 (T := fun _ => False) (fun _ _ h => h) (fun i hi e => by have := E9.out.lt i e; omega))
            clear ho10 hk10
            refine hKK _ _ ?_
            clear hKK KK
            try (simp only [Act.put, List.getElem_toArray, List.getElem_cons_succ, List.getElem_cons_zero, List.setIfInBounds_toArray, List.set_cons_zero, List.set_cons_succ])
            refine wpAny_ready (rs := [12]) (by kernel_rfl) (by simp) ?_
            refine AllReady.cons (o := _) rfl (fun KK hKK => ?_) AllReady.nil
            rw [if_pos (by simp [Region.wanted, yielded])]
            go_simp
            refine hKK _ _ ?_
            clear hKK KK
            try (simp only [Act.put, List.getElem_toArray, List.getElem_cons_succ, List.getElem_cons_zero, List.setIfInBounds_toArray, List.set_cons_zero, List.set_cons_succ])
            refine wpAny_done (by kernel_rfl) ?_ _
            have KF := Lib.hid (K10.out)
            have OF := Lib.hid (E10.out)
            clear HCUT HDRP
            go_wp2_with fail
            go_ret
            exact ⟨_, rfl, by rw [HRES.out]; exact Strs.ofOwn OF.out, KF.out⟩
        · rw [if_pos (by simp [Region.wanted, yielded])]
          go_simp
          refine hKK _ _ ?_
          clear hKK KK
          try (simp only [Act.put, List.getElem_toArray, List.getElem_cons_succ, List.getElem_cons_zero, List.setIfInBounds_toArray, List.set_cons_zero, List.set_cons_succ])
          have hk12 := Kept.alloc (fun _ => False) Wd (.cells #[.string p] 9)
          have P12 := Lib.hid (strs_new Wd #[.string p] 9 1 [p] rfl rfl (by unfold maxLen; omega))
          have K12 := Lib.hid (KD.out.then hk12)
          generalize hg12 : Wd.alloc (.cells #[.string p] 9) = Wx12 at P12 K12  ⊢
          clear hk12 hg12
          generalize hb12 : Wd.heap.size = gb12 at P12 ⊢
          clear hb12
          refine wpAny_ready (rs := [0]) (by kernel_rfl) (by simp) ?_
          refine AllReady.cons (o := _) rfl (fun KK hKK => ?_) AllReady.nil
          rw [if_pos (by simp [Region.wanted, yielded])]
          go_simp
          refine hKK _ _ ?_
          clear hKK KK
          try (simp only [Act.put, List.getElem_toArray, List.getElem_cons_succ, List.getElem_cons_zero, List.setIfInBounds_toArray, List.set_cons_zero, List.set_cons_succ])
          have hk13 := Kept.alloc (fun _ => False) Wx12 (.cells #[] 9)
          have E13 := Lib.hid (owns_newS Wx12)
          have K13 := Lib.hid (K12.out.then hk13)
          have B13 : w0.heap.size ≤ Wx12.heap.size := K12.out.size
          have P13 := Lib.hid (P12.out.kept hk13 (fun _ _ h => h))
          generalize hg13 : Wx12.alloc (.cells #[] 9) = Wx13 at E13 K13 P13 ⊢
          clear hk13 hg13
          have hne13 : gb12 ≠ Wx12.heap.size := by
            obtain ⟨g9, o9, e9, hl9, _⟩ := P12.out.at (k := 0) (by simp)
            cases e9
            omega
          generalize hb13 : Wx12.heap.size = gb13 at E13 B13 hne13 ⊢
          have EL13 := Lib.hid (E13.out.low B13)
          clear hb13
          refine wpAny_ready (rs := [4]) (by kernel_rfl) (by simp) ?_
          refine AllReady.cons (o := _) rfl (fun KK hKK => ?_) AllReady.nil
          refine step_append_strs (by rfl) _ _ (by rfl) (by rfl) w0.heap.size (.slice (some ⟨gb13, 0, none⟩) 0 0) (.slice (some ⟨g, off, none⟩) i c) ([]) (xs.take i) (by rfl) (by rfl) EL13.out (HCUT.out _ K13.out) (by have := HXL.out; simp; omega) (by have := K13.out.size; omega) ?_
          intro a14 c14 w14 ho14 hk14
          generalize ([] ++ (xs.take i)).length = L14 at ho14 ⊢
          have E14 := Lib.hid ho14
          have K14 := Lib.hid (K13.out.trans hk14 (T := fun _ => False) (fun _ _ h => h) (fun i hi e => by have := EL13.out.lt i e; omega))
          have P14 := Lib.hid (P13.out.kept hk14 (fun j hj e => by simp [Value.ownBlock] at e hj; omega))
          clear ho14 hk14
          refine hKK _ _ ?_
          clear hKK KK
          try (simp only [Act.put, List.getElem_toArray, List.getElem_cons_succ, List.getElem_cons_zero, List.setIfInBounds_toArray, List.set_cons_zero, List.set_cons_succ])
          refine wpAny_ready (rs := [7]) (by kernel_rfl) (by simp) ?_
          refine AllReady.cons (o := _) rfl (fun KK hKK => ?_) AllReady.nil
          refine step_append_strs (by rfl) _ _ (by rfl) (by rfl) w0.heap.size (.slice a14 L14 c14) (.slice (some ⟨gb12, 0, none⟩) 1 1) (([] ++ (xs.take i))) [p] (by rfl) (by rfl) E14.out P14.out (by have := HXL.out; simp; omega) (by have := K14.out.size; omega) ?_
          intro a15 c15 w15 ho15 hk15
          generalize (([] ++ (xs.take i)) ++ [p]).length = L15 at ho15 ⊢
          have E15 := Lib.hid ho15
          have K15 := Lib.hid (K14.out.trans hk15 (T := fun _ => False) (fun _ _ h => h) (fun i hi e => by have := E14.out.lt i e; omega))
          clear ho15 hk15
          refine hKK _ _ ?_
          clear hKK KK
          try (simp only [Act.put, List.getElem_toArray, List.getElem_cons_succ, List.getElem_cons_zero, List.setIfInBounds_toArray, List.set_cons_zero, List.set_cons_succ])
          refine wpAny_ready (rs := [11]) (by kernel_rfl) (by simp) ?_
          refine AllReady.cons (o := _) rfl (fun KK hKK => ?_) AllReady.nil
          refine step_append_strs (by rfl) _ _ (by rfl) (by rfl) w0.heap.size (.slice a15 L15 c15) (vd) ((([] ++ (xs.take i)) ++ [p])) (xs.drop i) (by rfl) (by rfl) E15.out (HDRP.out _ K15.out) (by have := HXL.out; simp; omega) (by have := K15.out.size; omega) ?_
          intro a16 c16 w16 ho16 hk16
          generalize ((([] ++ (xs.take i)) ++ [p]) ++ (xs.drop i)).length = L16 at ho16 ⊢
          have E16 := Lib.hid ho16
          have K16 := Lib.hid (K15.out.trans hk16 (T := fun _ => False) (fun _ _ h => h) (fun i hi e => by have := E15.out.lt i e; omega))
          clear ho16 hk16
          refine hKK _ _ ?_
          clear hKK KK
          try (simp only [Act.put, List.getElem_toArray, List.getElem_cons_succ, List.getElem_cons_zero, List.setIfInBounds_toArray, List.set_cons_zero, List.set_cons_succ])
          refine wpAny_ready (rs := [12]) (by kernel_rfl) (by simp) ?_
          refine AllReady.cons (o := _) rfl (fun KK hKK => ?_) AllReady.nil
          rw [if_pos (by simp [Region.wanted, yielded])]
          go_simp
          refine hKK _ _ ?_
          clear hKK KK
          try (simp only [Act.put, List.getElem_toArray, List.getElem_cons_succ, List.getElem_cons_zero, List.setIfInBounds_toArray, List.set_cons_zero, List.set_cons_succ])
          refine wpAny_done (by kernel_rfl) ?_ _
          have KF := Lib.hid (K16.out)
          have OF := Lib.hid (E16.out)
          clear HCUT HDRP
          go_wp2_with fail
          go_ret
          exact ⟨_, rfl, by rw [HRES.out]; exact Strs.ofOwn OF.out, KF.out⟩

theorem rinsert_any (v : Value) (xs : List ByteArray) (p : ByteArray) (w : World) (h : Strs w v xs) (h0 : 0 < xs.length) (hl : xs.length ≤ 100000) (hz : ∀ x ∈ xs, x.size ≤ 100000) (hp : p.size ≤ 100000) :
    Calls Tryd.prog 61 #[v, .string p] w fun e w' => ∃ v', e = .returned v' ∧ Strs w' v' (insS xs p) ∧ Kept (fun _ => False) w w' := by
  cases hm : memS p xs with
  | true =>
    refine (rinsert_has v xs p w h hm).mono ?_
    rintro e w' ⟨rfl, rfl⟩
    exact ⟨_, rfl, by unfold insS; rw [if_pos hm]; exact h, Kept.refl _ _⟩
  | false => exact rinsert_new v xs p w h hm h0 hl hz hp
end Go.Proofs.YtndedphkgkmckaaDoor
