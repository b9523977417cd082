/-
  Tables of names: put, refuses, Add.
-/
import Derived.Test.YtneappinkfhjmaaDoorNamU
import Derived.Test.YtneappinkfhjmaaDoorNamW
namespace Go.Proofs.YtneappinkfhjmaaDoor
open Go.RowKit Go.Maps Go.WideMaps Go.ChangeMaps

set_option maxRecDepth 100000 in
theorem tlen_cell (w : World) (g : Nat) (a : Option Addr) (l c : Nat) (c0 : w.cell? ⟨g, 0, none⟩ = some (.slice a l c)) :
    Calls Tryd.prog 60 #[.pointer (some ⟨g, 0, none⟩)] w fun e w' => e = .returned (.int .i64 (l : Nat)) ∧ w = w' := by
  go_enter Tryd.func60, Tryd.ntmps60
  go_wp2_with fail
  go_ret
  exact ⟨rfl, rfl⟩

set_option maxRecDepth 100000 in
set_option maxHeartbeats 1600000 in
theorem put_any8 (s : ByteArray) (w : World) (g : Nat) (xs : List ByteArray) (v : Value) (m n : Nat) (D : DataW Unit) (h : TabAt w g xs v m n D) (hs : s.size ≤ 12) (h0 : posS xs s = 0) (hle : xs.length < 256) :
    Calls Tryd.prog 59 #[.pointer (some ⟨g, 0, none⟩), .string s] w fun e w' => e = .returned (.tuple #[]) ∧ ∃ v' D', TabAt w' g (xs ++ [s]) v' m (n + 1) D' ∧ (v'.ownBlock = v.ownBlock ∨ ∀ k, v'.ownBlock = some k → w.heap.size ≤ k) ∧ Kept (fun k => k = g ∨ k = m ∨ v.ownBlock = some k) w w' := by
  obtain ⟨i0, hi, hz0, hz1, hz2⟩ := info_parts info_str
  have hkey := keyOf_string_mk Tryd.underlying9 (show s.size ≤ maxLen by unfold maxLen; omega)
  obtain ⟨a, c, hf, _, _⟩ := (strs_own h.row).form
  have c0 := h.c0
  have hlt := h.lt
  have hmlt := h.map.lt
  have H := Lib.hid h
  obtain ⟨N, hN⟩ : ∃ N, N = xs.length := ⟨_, rfl⟩
  rw [← hN] at hf hle
  have hr := h.row
  rw [← hN, hf] at hr
  rw [hf] at c0
  have hnN : n < 256 := by have := h.nle; omega
  have HN := Lib.hid hN; have HR := Lib.hid hr; have HF := Lib.hid hf; have H0 := Lib.hid h0
  have f0 := h.f0
  have hap1 : ¬ (Value.slice a N c).ownBlock = some g := by rw [← hf]; exact h.ap1
  have hap3 : ¬ (Value.slice a N c).ownBlock = some m := by rw [← hf]; exact h.ap3
  have HAP1 := Lib.hid hap1; have HAP3 := Lib.hid hap3
  have hm1 : N + 1 ≤ maxLen := by unfold maxLen; omega
  have hm2 : (N + 1) * 16 ≤ 140737488355328 := by omega
  clear h hN hr hf h0 hap1 hap3
  go_enter Tryd.func59, Tryd.ntmps59
  go_wp2_with (at_builtin; refine wpList_append_lies _ rfl _ _ _ rfl 0 9 i0 _ 1 16 Tryd.underlying26 hi hz0 hz1 hz2 rfl (by omega) (.slice a N c) N _ rfl (HR.out.alloc _) ⟨w.heap.size, 0, none⟩ 1 1 [.string s] rfl rfl (World.news_of_block (cs := #[.string s]) (t := 9) (fr := (0, 0)) (heap_alloc_new w _)) (by simp [Value.oneCell']) (by omega) hm1 hm2 (by simp) (w.heap.size + 1) (by simp) ?_)
  intro gg cap w1 hown1 hgrow hat hgl
  have kp : Kept (blk (.slice a N c)) w w1 := (Kept.alloc (fun _ => False) w _).trans (Kept.ofGrown (S := blk (.slice a N c)) hgrow fun k e => e) (fun _ _ h => h.elim) (fun _ _ h => h)
  have hcz : w1.cell? ⟨g, 0, none⟩ = some (.slice a N c) := (kp.cell (p := ⟨g, 0, none⟩) hlt HAP1.out).trans c0
  have hc1 : w1.cell? ⟨g, 1, none⟩ = some (.map (some m)) := (kp.cell (p := ⟨g, 1, none⟩) hlt HAP1.out).trans H.out.c1
  have hfz : w1.frozen? ⟨g, 0, none⟩ = false := (kp.frozen (p := ⟨g, 0, none⟩) hlt HAP1.out).trans f0
  have hat2 : (Value.slice (some ⟨gg, 0, none⟩) (N + 1) cap).ownBlock = v.ownBlock ∨ ∀ k, (Value.slice (some ⟨gg, 0, none⟩) (N + 1) cap).ownBlock = some k → w.heap.size ≤ k := by
    rcases hat with h | h
    · exact Or.inl (by rw [HF.out, h]; rfl)
    · exact Or.inr fun k hk => by simp [Value.ownBlock] at hk; omega
  have HAT2 := Lib.hid hat2
  have hgne : gg ≠ g := fun e => by
    rcases hat with h | h
    · exact HAP1.out (by rw [h, e])
    · omega
  have hgnm : gg ≠ m := fun e => by
    rcases hat with h | h
    · exact HAP3.out (by rw [h, e])
    · omega
  have hmap1 := ownsMap_kept H.out.map kp HAP3.out
  have k2 := Kept.setCell (fun k => k = g) w1 ⟨g, 0, none⟩ (.slice (some ⟨gg, 0, none⟩) (N + 1) cap) rfl
  have hd0 : (w1.setCell ⟨g, 0, none⟩ (.slice (some ⟨gg, 0, none⟩) (N + 1) cap)).cell? ⟨g, 0, none⟩ = some (.slice (some ⟨gg, 0, none⟩) (N + 1) cap) := World.cell?_setCell_same _ _ _ hcz
  have hd1 : (w1.setCell ⟨g, 0, none⟩ (.slice (some ⟨gg, 0, none⟩) (N + 1) cap)).cell? ⟨g, 1, none⟩ = some (.map (some m)) := by rw [World.cell?_setCell_other _ _ _ _ (fun e => by injection e; omega)]; exact hc1
  have hdf : (w1.setCell ⟨g, 0, none⟩ (.slice (some ⟨gg, 0, none⟩) (N + 1) cap)).frozen? ⟨g, 0, none⟩ = false := by rw [World.frozen?_setCell]; exact hfz
  have hown2 := k2.owns hown1 (fun j hj e => hgne (by simp [Value.ownBlock] at hj; omega))
  have hmap2 := ownsMap_kept hmap1 k2 H.out.ap2
  have KA := kp.trans k2 (T := fun k => k = g ∨ k = m ∨ (Value.slice a N c).ownBlock = some k) (fun i _ e => Or.inr (Or.inr e)) (fun i _ e => Or.inl e)
  have hlt2 : g < (w1.setCell ⟨g, 0, none⟩ (.slice (some ⟨gg, 0, none⟩) (N + 1) cap)).heap.size := Nat.lt_of_lt_of_le (Nat.lt_of_lt_of_le hlt kp.size) k2.size
  have HO2 := Lib.hid hown2; have HM2 := Lib.hid hmap2; have HKA := Lib.hid KA; have HDF := Lib.hid hdf; have HL2 := Lib.hid hlt2; have HD0 := Lib.hid hd0; have HD1 := Lib.hid hd1
  have HGG := Lib.hid hgne; have HGM := Lib.hid hgnm
  clear hat2 hown1 hgrow hat hgl hmap1 k2 hown2 hmap2 KA hdf hlt2 hd0 hd1 hgne hgnm hc1
  go_wp2_with fail
  clear hcz hfz c0 f0
  generalize w1.setCell ⟨g, 0, none⟩ (.slice (some ⟨gg, 0, none⟩) (N + 1) cap) = w2 at HO2 HM2 HKA HDF HL2 HD0 HD1 ⊢
  have hd0 : w2.cell? ⟨g, 0, none⟩ = some (.slice (some ⟨gg, 0, none⟩) (N + 1) cap) := HD0.out
  have hd1 : w2.cell? ⟨g, 1, none⟩ = some (.map (some m)) := HD1.out
  go_still_tail 7, (by kernel_rfl)
  still_call ((tlen_cell _ g _ _ _ (by exact hd0)).mono (fun _ _ h => ⟨h.1, h.2.symm⟩))
  repeat still_step
  refine wpStill_nil ?_
  change wpList _ _ _ _ _ w2.drew
  replace hd0 : w2.drew.cell? _ = _ := hd0
  replace hd1 : w2.drew.cell? _ = _ := hd1
  have hwf : (Lit.int .i64 ((N + 1 : Nat) : Int)).wf = true := by simp [Lit.wf, IntKind.min, IntKind.max, IntKind.signed, IntKind.bits]; omega
  have hmd : w2.drew.ownsMap Tryd.prog 9 (plainElem Tryd.prog 3) m n D := ownsMap_kept HM2.out (Kept.refl (fun _ => False) w2).drew (fun h => h)
  go_wp2_with (first
    | (at_mapUpdate; refine wpList_mapUpdate_own _ rfl _ _ _ 89 rfl 9 3 lawS Tryd.underlying89 _ m n D rfl hmd (by unfold maxLen; omega) _ _ _ rfl rfl hkey _ [] (plainElem_int Tryd.underlying3 hwf) ?_; intro w4 hown4 hg4)
    | go_in)
  have k4 : Kept (fun k => k = m) w2 w4 := (Kept.refl (fun _ => False) w2).drew.trans (Kept.ofGrown (S := fun k => k = m) hg4 (fun k e => (Option.some.inj e).symm)) (fun _ _ h => h.elim) (fun _ _ h => h)
  have hfin : TabAt w4 g (xs ++ [s]) (.slice (some ⟨gg, 0, none⟩) (N + 1) cap) m (n + 1) (D.put (.string s.data.toList) (.lit (.int .i64 (N + 1 : Nat)))) := by
    have hmg : g ≠ m := fun e => H.out.ap2 e.symm
    refine ⟨(k4.cell (p := ⟨g, 0, none⟩) HL2.out hmg).trans HD0.out, (k4.cell (p := ⟨g, 1, none⟩) HL2.out hmg).trans HD1.out, (k4.frozen (p := ⟨g, 0, none⟩) HL2.out hmg).trans HDF.out, ?_, hown4, ?_, ?_, ?_, ?_, Nat.lt_of_lt_of_le HL2.out k4.size, ?_, H.out.ap2, ?_⟩
    · rw [List.length_append, List.map_append, ← HN.out]
      exact k4.owns HO2.out (fun j hj e => HGM.out (by simp [Value.ownBlock] at hj; omega))
    · rw [HN.out]; exact H.out.ok.put H.out.map.isMap H0.out
    · have := H.out.nle; simp; omega
    · have := HN.out; simp; omega
    · intro x hx
      rcases List.mem_append.1 hx with h | h
      · exact H.out.short x h
      · rw [List.mem_singleton] at h; rw [h]; exact hs
    · simp [Value.ownBlock]; exact HGG.out
    · simp [Value.ownBlock]; exact HGM.out
  have hK : Kept (fun k => k = g ∨ k = m ∨ v.ownBlock = some k) w w4 := by
    rw [HF.out]
    exact HKA.out.trans k4 (fun _ _ h => h) (fun _ _ h => Or.inr (Or.inl h))
  have HG : Hid (∃ v' D', TabAt w4 g (xs ++ [s]) v' m (n + 1) D' ∧ (v'.ownBlock = v.ownBlock ∨ ∀ k, v'.ownBlock = some k → w.heap.size ≤ k) ∧ Kept (fun k => k = g ∨ k = m ∨ v.ownBlock = some k) w w4) := ⟨_, _, hfin, HAT2.out, hK⟩
  clear hown4 hg4 k4 hfin hK
  go_wp2
  go_end0
  first | exact ⟨rfl, HG.out⟩ | (refine ⟨rfl, ?_⟩; simpa using HG.out) | simpa using HG.out

/-- The error of adding a name. -/
def refS (xs : List ByteArray) (s : ByteArray) (most : Int) : Int :=
  if validS s = false then 9 else if 0 < posS xs s then 5 else if most ≤ xs.length ∨ 256 ≤ xs.length then 14 else 0

set_option maxRecDepth 100000 in
set_option maxHeartbeats 800000 in
theorem refuses_any (s : ByteArray) (most : Int) (w : World) (g : Nat) (xs : List ByteArray) (v : Value) (m n : Nat) (D : DataW Unit) (h : TabAt w g xs v m n D) (hs : s.size ≤ maxLen) :
    Calls Tryd.prog 56 #[.pointer (some ⟨g, 0, none⟩), .string s, .int .i64 most] w fun e w' => e = .returned (.int .i64 (refS xs s most)) ∧ Kept (fun _ => False) w w' := by
  obtain ⟨R, hR⟩ : ∃ R, R = refS xs s most := ⟨_, rfl⟩
  rw [← hR]
  have H := Lib.hid h
  clear h
  unfold refS at hR
  by_cases hv : validS s = false
  · rw [if_pos hv] at hR
    subst hR
    go_enter Tryd.func56, Tryd.ntmps56
    go_wp2_with fail
    refine (valid_any s w).mono ?_
    rw [hv]
    rintro e w1 ⟨rfl, hk1⟩
    go_wp2_with fail
    go_ret
    exact ⟨rfl, hk1⟩
  · rw [if_neg hv] at hR
    have hv2 : validS s = true := by simpa using hv
    clear hv
    by_cases hp : 0 < posS xs s
    · rw [if_pos hp] at hR
      subst hR
      go_enter Tryd.func56, Tryd.ntmps56
      go_wp2_with fail
      refine (valid_any s w).mono ?_
      rw [hv2]
      rintro e w1 ⟨rfl, hk1⟩
      have HK1 := Lib.hid hk1
      clear hk1
      go_wp2_with fail
      refine (tnumber_any s w1 g xs v m n D (H.out.stay HK1.out) hs).mono ?_
      rw [show decide (0 < posS xs s) = true by simp [hp]]
      rintro e w2 ⟨rfl, rfl⟩
      clear hp
      go_wp2_with fail
      go_ret
      exact ⟨rfl, HK1.out⟩
    · rw [if_neg hp] at hR
      obtain ⟨N, hN⟩ : ∃ N, N = xs.length := ⟨_, rfl⟩
      rw [← hN] at hR
      have HN := Lib.hid hN
      clear hN
      have hcase : ((most : Int) ≤ (N : Int) ∧ R = 14) ∨ (¬ (most : Int) ≤ (N : Int) ∧ (256 : Int) ≤ (N : Int) ∧ R = 14) ∨ (¬ (most : Int) ≤ (N : Int) ∧ ¬ (256 : Int) ≤ (N : Int) ∧ R = 0) := by
        by_cases h1 : most ≤ (N : Int)
        · exact Or.inl ⟨h1, by rw [hR, if_pos (Or.inl h1)]⟩
        · by_cases h2 : 256 ≤ N
          · exact Or.inr (Or.inl ⟨h1, by omega, by rw [hR, if_pos (Or.inr h2)]⟩)
          · exact Or.inr (Or.inr ⟨h1, by omega, by rw [hR, if_neg (by omega)]⟩)
      clear hR
      rcases hcase with ⟨h1, rfl⟩ | ⟨h1, h2, rfl⟩ | ⟨h1, h2, rfl⟩
      all_goals
        go_enter Tryd.func56, Tryd.ntmps56
        go_wp2_with fail
        refine (valid_any s w).mono ?_
        rw [hv2]
        rintro e w1 ⟨rfl, hk1⟩
        have HK1 := Lib.hid hk1
        clear hk1
        go_wp2_with fail
        refine (tnumber_any s w1 g xs v m n D (H.out.stay HK1.out) hs).mono ?_
        rw [show decide (0 < posS xs s) = false by simp; omega]
        rintro e w2 ⟨rfl, rfl⟩
        go_wp2_with fail
        refine (tlen_any w1 g xs v m n D (H.out.stay HK1.out)).mono ?_
        rw [← HN.out]
        rintro e w2 ⟨rfl, rfl⟩
        go_wp2_with fail
        try (refine (tlen_any w1 g xs v m n D (H.out.stay HK1.out)).mono ?_; rw [← HN.out]; rintro e w2 ⟨rfl, rfl⟩; go_wp2_with fail)
        go_ret
        exact ⟨rfl, HK1.out⟩
end Go.Proofs.YtneappinkfhjmaaDoor
