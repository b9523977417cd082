/-
  Tables of names: Add.
-/
import Derived.Test.YtneappinkfhjmaaDoorNamA
import Derived.Lib.SmallJoins
namespace Go.Proofs.YtneappinkfhjmaaDoor
open Go.RowKit Go.Maps Go.WideMaps Go.ChangeMaps

theorem validS_size {s : ByteArray} (h : validS s = true) : s.size ≤ 12 := by
  unfold validS at h
  simp only [Bool.and_eq_true, decide_eq_true_eq] at h
  exact h.1.1.2
theorem refS_ok {xs : List ByteArray} {s : ByteArray} {most : Int} (h : refS xs s most = 0) : s.size ≤ 12 ∧ posS xs s = 0 ∧ xs.length < 256 ∧ (xs.length : Int) < most := by
  unfold refS at h
  by_cases hv : validS s = false
  · rw [if_pos hv] at h; omega
  · rw [if_neg hv] at h
    have hv2 : validS s = true := by simpa using hv
    by_cases hp : 0 < posS xs s
    · rw [if_pos hp] at h; omega
    · rw [if_neg hp] at h
      by_cases hm : most ≤ (xs.length : Int) ∨ 256 ≤ xs.length
      · rw [if_pos hm] at h; omega
      · exact ⟨validS_size hv2, by omega, by omega, by omega⟩

set_option maxRecDepth 100000 in
set_option maxHeartbeats 800000 in
theorem add_no (s : ByteArray) (most : Int) (w : World) (g : Nat) (xs : List ByteArray) (v : Value) (m n : Nat) (D : DataW Unit) (h : TabAt w g xs v m n D) (hs : s.size ≤ maxLen) (hr : refS xs s most ≠ 0) :
    Calls Tryd.prog 15 #[.pointer (some ⟨g, 0, none⟩), .string s, .int .i64 most] w fun e w' => e = .returned (.tuple #[.pointer none, .int .i64 0, .int .i64 (refS xs s most)]) ∧ Kept (fun _ => False) w w' := by
  have H := Lib.hid h
  have HR := Lib.hid (refuses_any s most w g xs v m n D h hs)
  clear h
  generalize refS xs s most = R at *
  go_enter Tryd.func15, Tryd.ntmps15
  go_wp2_with fail
  refine HR.out.mono ?_
  rintro e w1 ⟨rfl, hk1⟩
  go_wp2_with fail
  go_ret3
  exact ⟨rfl, hk1⟩

set_option maxRecDepth 100000 in
set_option maxHeartbeats 1600000 in
theorem add_ok (s : ByteArray) (most : Int) (w : World) (g : Nat) (xs : List ByteArray) (v : Value) (m n : Nat) (D : DataW Unit) (h : TabAt w g xs v m n D) (hr : refS xs s most = 0) :
    Calls Tryd.prog 15 #[.pointer (some ⟨g, 0, none⟩), .string s, .int .i64 most] w fun e w' => ∃ g', e = .returned (.tuple #[.pointer (some ⟨g', 0, none⟩), .int .i64 (xs.length + 1 : Nat), .int .i64 0]) ∧ (∃ v' m' n' D', TabAt w' g' (xs ++ [s]) v' m' n' D' ∧ (∀ k, v'.ownBlock = some k → w.heap.size ≤ k) ∧ w.heap.size ≤ m') ∧ w.heap.size ≤ g' ∧ Kept (fun _ => False) w w' := by
  obtain ⟨hs12, h0, hle, _⟩ := refS_ok hr
  have hR := refuses_any s most w g xs v m n D h (by unfold maxLen; omega)
  rw [hr] at hR
  have HR := Lib.hid hR
  obtain ⟨a, c, hf, _, _⟩ := (strs_own h.row).form
  have H := Lib.hid h
  have H0 := Lib.hid h0
  obtain ⟨N, hN⟩ : ∃ N, N = xs.length := ⟨_, rfl⟩
  rw [← hN] at hf hle ⊢
  have HN := Lib.hid hN; have HF := Lib.hid hf
  clear h hR hr h0 hN
  go_enter Tryd.func15, Tryd.ntmps15
  go_wp2_with fail
  refine HR.out.mono ?_
  rintro e w1 ⟨rfl, hk1⟩
  have HK1 := Lib.hid hk1
  have hsz1 := hk1.size
  clear hk1 HR
  go_wp2_with fail
  refine (tnew_any w1).mono ?_
  rintro e w2 ⟨rfl, ht2, hk2, hs2⟩
  obtain ⟨gn, hgn⟩ : ∃ gn, gn = w1.heap.size + 1 := ⟨_, rfl⟩
  obtain ⟨mn, hmn⟩ : ∃ mn, mn = w1.heap.size := ⟨_, rfl⟩
  rw [← hgn, ← hmn] at ht2
  rw [← hgn]
  have q1 : w1.heap.size < gn := by omega
  have q2 : w1.heap.size ≤ mn := by omega
  have q3 : gn < w2.heap.size := by omega
  have q4 : mn < w2.heap.size := by omega
  clear hgn hmn
  have HT2 := Lib.hid (H.out.stay (HK1.out.then hk2))
  have HK2 := Lib.hid (HK1.out.then hk2)
  have HN2 := Lib.hid ht2
  have hgl : g < w1.heap.size := Nat.lt_of_lt_of_le H.out.lt hsz1
  have hml : m < w1.heap.size := Nat.lt_of_lt_of_le H.out.map.lt hsz1
  have hvl : ∀ k, v.ownBlock = some k → k < w1.heap.size := fun k hk => Nat.lt_of_lt_of_le (H.out.row.lt k hk).2 hsz1
  have c0 := HT2.out.c0
  rw [hf] at c0
  have hst := HT2.out
  have hcl := sclone_any v xs w2 (strs_own HT2.out.row) HT2.out.le
  rw [hf] at hcl
  have HCL := Lib.hid hcl
  have HVL := Lib.hid hvl
  clear ht2 hk2 hcl hvl hf hst
  go_wp2_with fail
  refine HCL.out.mono ?_
  rintro e w3 ⟨v3, rfl, hown3, hk3⟩
  rw [← HN.out] at hown3
  have HT3 := Lib.hid (HT2.out.stay hk3)
  have HN3 := Lib.hid (HN2.out.stay hk3)
  have hv3 : ∀ k, v3.ownBlock = some k → w2.heap.size ≤ k := fun k hk => (hown3.lt k hk).1
  have nc0 := HN3.out.c0
  have nf0 := HN3.out.f0
  have hsz3 := hk3.size
  obtain ⟨a3, c3, hf3⟩ : ∃ a c, v3 = .slice a N c := by
    rcases Go.Joins.ownsRow_forms hown3 with ⟨h1, h2⟩ | ⟨g', cap, h1⟩
    · exact ⟨_, _, by rw [h1, h2]⟩
    · exact ⟨_, _, h1⟩
  have k4 := Kept.setCell (fun k => k = gn) w3 ⟨gn, 0, none⟩ v3 rfl
  have hd0 : (w3.setCell ⟨gn, 0, none⟩ v3).cell? ⟨gn, 0, none⟩ = some v3 := World.cell?_setCell_same _ _ _ nc0
  have hd1 : (w3.setCell ⟨gn, 0, none⟩ v3).cell? ⟨gn, 1, none⟩ = some (.map (some mn)) := by rw [World.cell?_setCell_other _ _ _ _ (fun e => by injection e; omega)]; exact HN3.out.c1
  have hdf : (w3.setCell ⟨gn, 0, none⟩ v3).frozen? ⟨gn, 0, none⟩ = false := by rw [World.frozen?_setCell]; exact nf0
  have hrow4 := k4.owns hown3 (fun j hj e => by have := hv3 j hj; omega)
  have hmap4 := ownsMap_kept HN3.out.map k4 HN3.out.ap2
  have HT4 := Lib.hid (HT3.out.kept k4 (by omega) (fun k hk e => by have := HVL.out k hk; omega) (by omega))
  have hlt4 : gn < (w3.setCell ⟨gn, 0, none⟩ v3).heap.size := Nat.lt_of_lt_of_le HN3.out.lt k4.size
  have HK4 := Lib.hid ((HK2.out.then hk3).trans k4 (T := fun _ => False) (fun _ _ h => h) (fun i hi e => by omega))
  have HD0 := Lib.hid hd0; have HD1 := Lib.hid hd1; have HDF := Lib.hid hdf; have HR4 := Lib.hid hrow4; have HM4 := Lib.hid hmap4; have HL4 := Lib.hid hlt4; have HV3 := Lib.hid hv3
  have HNM := Lib.hid HN3.out.ap2
  clear hown3 hk3 k4 hd0 hd1 hdf hrow4 hmap4 hlt4 hv3 HN2 HT2 HCL HK2
  subst hf3
  go_wp2_with fail
  clear nc0 nf0 c0
  generalize w3.setCell ⟨gn, 0, none⟩ (.slice a3 N c3) = w4 at HT4 HK4 HD0 HD1 HDF HR4 HM4 HL4 ⊢
  have hd1 : w4.cell? ⟨gn, 1, none⟩ = some (.map (some mn)) := HD1.out
  have ht1 : w4.cell? ⟨g, 1, none⟩ = some (.map (some m)) := HT4.out.c1
  go_still_tail 8, (by kernel_rfl)
  change wpList _ _ _ _ _ w4.drew
  replace hd1 : w4.drew.cell? _ = _ := hd1
  replace ht1 : w4.drew.cell? _ = _ := ht1
  have hszD : Maps.size D ≤ N := by have := HT4.out.map.size_le; have := HT4.out.nle; have := HN.out; omega
  have kd := (Kept.refl (fun _ => False) w4).drew
  go_wp2_with fail
  refine (mcopy_any mn m n D w4.drew (ownsMap_kept HM4.out kd (fun h => h)) (ownsMap_kept HT4.out.map kd (fun h => h)) (by omega) (by omega)).mono ?_
  rintro e w5 ⟨rfl, hmap5, hk5⟩
  have k5 : Kept (fun k => k = mn) w4 w5 := kd.trans hk5 (fun _ _ h => h.elim) (fun _ _ h => h)
  have ht5 : TabAt w5 gn xs (.slice a3 N c3) mn (Maps.size D) D := by
    have hmg : ¬ gn = mn := fun e => HNM.out e.symm
    have hown5 := k5.owns HR4.out (fun j hj e => by have := HV3.out j hj; omega)
    refine ⟨(k5.cell (p := ⟨gn, 0, none⟩) HL4.out hmg).trans HD0.out, (k5.cell (p := ⟨gn, 1, none⟩) HL4.out hmg).trans HD1.out, (k5.frozen (p := ⟨gn, 0, none⟩) HL4.out hmg).trans HDF.out, ?_, hmap5, HT4.out.ok, by have := HN.out; omega, HT4.out.le, HT4.out.short,
      Nat.lt_of_lt_of_le HL4.out k5.size, fun e => by have := HV3.out _ e; omega, HNM.out, fun e => by have := HV3.out _ e; omega⟩
    rw [← HN.out]
    exact Go.Joins.ownsRow_le hown5 (Nat.zero_le _)
  have HT5 := Lib.hid ht5
  have HK5 := Lib.hid (HK4.out.trans k5 (T := fun _ => False) (fun _ _ h => h) (fun i hi e => by omega))
  clear hmap5 hk5 k5 ht5 hd1 ht1 kd
  go_wp2_with fail
  refine (put_any8 s w5 gn xs _ mn _ D HT5.out hs12 H0.out (by have := HN.out; omega)).mono ?_
  rintro e w6 ⟨rfl, v6, D6, ht6, hat6, hk6⟩
  have hv6 : ∀ k, v6.ownBlock = some k → w.heap.size ≤ k := fun k hk => by
    rcases hat6 with h | h
    · rw [h] at hk; have := HV3.out k hk; omega
    · have := h k hk; have := HK5.out.size; omega
  have HV6 := Lib.hid hv6
  clear hv6 hat6
  have HT6 := Lib.hid ht6
  have HK6 := Lib.hid (HK5.out.trans hk6 (T := fun _ => False) (fun _ _ h => h) (fun i hi e => by
    rcases e with e | e | e
    · omega
    · omega
    · have := HV3.out i e; omega))
  clear ht6 hk6
  go_wp2_with fail
  refine (tlen_any w6 gn _ _ _ _ _ HT6.out).mono ?_
  rw [List.length_append, List.length_singleton, ← HN.out]
  rintro e w7 ⟨rfl, rfl⟩
  go_wp2_with fail
  go_ret3
  exact ⟨gn, rfl, ⟨_, _, _, _, HT6.out, HV6.out, by omega⟩, by omega, HK6.out⟩
end Go.Proofs.YtneappinkfhjmaaDoor
