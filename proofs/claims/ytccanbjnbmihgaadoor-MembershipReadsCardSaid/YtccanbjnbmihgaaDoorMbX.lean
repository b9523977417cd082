/-
  membership: Revoke, Expire.
-/
import Derived.Test.YtccanbjnbmihgaaDoorMbF
import Derived.Test.YtccanbjnbmihgaaDoorMbR
namespace Go.Proofs.YtccanbjnbmihgaaDoor
open Go.RowKit Go.Shelf
set_option linter.unusedVariables false
set_option linter.unusedSimpArgs false

theorem book_store {w W4 : World} {bb M N u : Nat} {hv : Nat → Value} {H : Nat → List Ent} {v : Value} {l' : List Ent} (h : BookAt w bb M hv H) (K : Kept (fun _ => False) w W4) (hrow : Ents W4 v l') (hvb : ∀ k, v.ownBlock = some k → w.heap.size ≤ k)
    (ha : Asc l') (hMN : M ≤ N) (hlen : l'.length ≤ N) (hus : ∀ x ∈ l', x.u = (u : Int)) (hu : u < 257) :
    BookAt (W4.setCell ⟨bb, u, none⟩ v) bb N (upd hv u v) (upd H u l') ∧ Kept (fun k => k = bb) w (W4.setCell ⟨bb, u, none⟩ v) := by
  have hbb : bb < w.heap.size := World.block_lt_of_cell? w _ (h.cell u hu)
  have c4 : ∀ k, k < 257 → W4.cell? ⟨bb, k, none⟩ = some (hv k) := fun k hk => (K.cell (World.block_lt_of_cell? w _ (h.cell k hk)) (fun h => h)).trans (h.cell k hk)
  have KS : Kept (fun k => k = bb) w (W4.setCell ⟨bb, u, none⟩ v) := K.trans (Kept.setCell (fun k => k = bb) _ ⟨bb, u, none⟩ v rfl) (fun _ _ h => h.elim) (fun _ _ h => h)
  have KT : Kept (fun k => k = bb) W4 (W4.setCell ⟨bb, u, none⟩ v) := Kept.setCell (fun k => k = bb) _ ⟨bb, u, none⟩ v rfl
  refine ⟨⟨fun k hk => ?_, fun k => ?_, fun k hk => ?_, fun k b hk hb => ?_, fun k hk => ?_, fun k hk => ?_, fun k hk => ?_⟩, KS⟩
  · unfold upd
    by_cases e : k = u
    · subst e
      rw [if_pos rfl]
      first | exact World.cell?_setCell_same _ (c4 k hk) | exact World.cell?_setCell_same _ _ (c4 k hk) | exact World.cell?_setCell_same _ _ _ (c4 k hk)
    · have hne : (⟨bb, u, none⟩ : Addr) ≠ ⟨bb, k, none⟩ := fun h => e (by injection h with _ h; exact h.symm)
      rw [if_neg e]
      exact (World.cell?_setCell_other _ _ _ _ hne).trans (c4 k hk)
  · rw [World.frozen?_setCell]
    exact (K.frozen (p := ⟨bb, k, none⟩) hbb (fun h => h)).trans (h.free k)
  · unfold upd
    by_cases e : k = u
    · rw [if_pos e, if_pos e]
      exact hrow.kept KT (fun b hb e2 => by have := hvb b hb; omega)
    · rw [if_neg e, if_neg e]
      exact (h.row k hk).kept KS (fun b hb e2 => h.apart k b hk hb e2)
  · unfold upd at hb
    by_cases e : k = u
    · rw [if_pos e] at hb
      have := hvb b hb; omega
    · rw [if_neg e] at hb
      exact h.apart k b hk hb
  · unfold upd
    by_cases e : k = u
    · rw [if_pos e]; exact ha
    · rw [if_neg e]; exact h.asc k hk
  · unfold upd
    by_cases e : k = u
    · rw [if_pos e]; exact hlen
    · rw [if_neg e]; exact Nat.le_trans (h.len k hk) hMN
  · unfold upd
    by_cases e : k = u
    · rw [if_pos e, e]; exact hus
    · rw [if_neg e]; exact h.user k hk

theorem ne_split : ∀ (l : List Ent) (r : Int), Asc l → l.filter (fun y => decide (y.r ≠ r)) = l.filter (fun y => decide (y.r < r)) ++ l.filter (fun y => decide (r < y.r))
  | [], _, _ => rfl
  | y :: t, r, ha => by
    have it := ne_split t r (asc_tail ha)
    have hh := asc_head ha
    rcases Int.lt_trichotomy y.r r with hlt | heq | hgt
    · rw [List.filter_cons, if_pos (by simp; omega), List.filter_cons, if_pos (by simp; omega), List.filter_cons, if_neg (by simp; omega), it]
      rfl
    · rw [List.filter_cons, if_neg (by simp; omega), List.filter_cons, if_neg (by simp; omega), List.filter_cons, if_neg (by simp; omega), it]
    · have n1 : t.filter (fun z => decide (z.r < r)) = [] := List.filter_eq_nil_iff.2 (fun z hz => by have := hh z hz; simp; omega)
      rw [List.filter_cons, if_pos (by simp; omega), List.filter_cons, if_neg (by simp; omega), List.filter_cons, if_pos (by simp; omega), it, n1]
      rfl

set_option maxRecDepth 100000 in
set_option maxHeartbeats 3200000 in
theorem revoke_nil (w : World) (u r : Int) : Calls Tryd.prog 15 #[.pointer none, .int .i64 u, .int .i64 r] w fun e w' => e = .returned (.tuple #[.pointer none, .int .i64 1]) ∧ w = w' := by
  go_enter Tryd.func15, Tryd.ntmps15
  go_wp2_with fail
  all_goals go_ret2
  all_goals exact ⟨rfl, rfl⟩

set_option maxRecDepth 100000 in
set_option maxHeartbeats 3200000 in
theorem revoke_no (w : World) (v : Value) (M : Nat) (H : Nat → List Ent) (u r : Int) (h : BookV w v M H) (hM : M ≤ 100000) (hn : lookE (rowOf H u) r = none) :
    Calls Tryd.prog 15 #[v, .int .i64 u, .int .i64 r] w fun e w' => e = .returned (.tuple #[.pointer none, .int .i64 4]) ∧ Kept (fun _ => False) w w' := by
  have h0 := h
  obtain ⟨bb, hv, rfl, hb, hr⟩ := h
  have HA := Lib.hid (rowOf_asc hr u)
  have hlen : (rowOf H u).length ≤ 1000000 := Nat.le_trans (rowOf_len hb u) (by omega)
  have HB := Lib.hid h0; have HN := Lib.hid hn
  clear h0 hb hr hn
  go_enter Tryd.func15, Tryd.ntmps15
  go_wp2_with (first
    | (go_at_call 48; refine (mof_any w _ M H u HB.out).mono ?_; rintro e W1 ⟨rv, rfl, he, rfl⟩
       obtain ⟨a, c, rfl, hc1, hc2⟩ := he.form
       have HE := Lib.hid he; clear he)
    | (go_at_call 47; refine (place_any w _ (rowOf H u) r HE.out HA.out hlen).mono ?_; rintro e W1 ⟨i, rfl, hp, k1⟩
       have hfd : foundAt (rowOf H u) r i = false := by
         cases hf : foundAt (rowOf H u) r i with
         | false => rfl
         | true => exact absurd ((look_found HA.out hp hf).symm.trans HN.out) (by simp)
       rw [hfd]
       have K1 := Lib.hid k1
       clear hp k1 hfd))
  go_ret2
  exact ⟨rfl, K1.out⟩

theorem copy_side (w : World) (hv : Nat → Value) : (∀ j, j < (bookL hv).length → ((w.alloc (.cells book0.toArray 92)).cell? ⟨w.heap.size, 0 + j, none⟩).isSome = true) ∧ (∀ j, j < (bookL hv).length → (w.alloc (.cells book0.toArray 92)).frozen? ⟨w.heap.size, 0 + j, none⟩ = false) :=
  ⟨fun j hj => by rw [bookL_length] at hj; rw [Nat.zero_add, book0_at w _ j hj]; rfl, fun j hj => book0_free w _ _⟩
theorem bookL_one {w : World} {bb M : Nat} {hv : Nat → Value} {H : Nat → List Ent} (hb : BookAt w bb M hv H) : ∀ v ∈ bookL hv, v.oneCell' = true := fun v hvm => by
  simp only [bookL, List.mem_map, List.mem_range] at hvm
  obtain ⟨k, hk, rfl⟩ := hvm
  obtain ⟨a, c, hf, _⟩ := (hb.row k hk).form
  rw [hf]; rfl
theorem bookL_cells {w : World} {bb M : Nat} {hv : Nat → Value} {H : Nat → List Ent} (hb : BookAt w bb M hv H) : ∀ j v, (bookL hv)[j]? = some v → w.cell? ⟨bb, 0 + j, none⟩ = some v := fun j v hj => by
  have hl : j < 257 := by
    have := (List.getElem?_eq_some_iff.1 hj).1
    rwa [bookL_length] at this
  rw [bookL_at hv j hl] at hj
  cases hj
  rw [Nat.zero_add]
  exact hb.cell j hl
theorem bookL_size (hv : Nat → Value) : (Tryd.prog.info? 92).map (·.size) = some (bookL hv).length := by rw [bookL_length]; exact book_size

set_option maxRecDepth 100000 in
set_option maxHeartbeats 800000 in
theorem revoke_any (w : World) (v : Value) (M : Nat) (H : Nat → List Ent) (u : Nat) (r : Int) (h : BookV w v M H) (hM : M ≤ 100000) (hu1 : 1 ≤ u) (hu2 : u ≤ 256) (hn : lookE (H u) r ≠ none) :
    Calls Tryd.prog 15 #[v, .int .i64 (u : Int), .int .i64 r] w fun e w' =>
      ∃ v', e = .returned (.tuple #[v', .int .i64 0]) ∧ BookV w' v' M (upd H u ((H u).filter (fun y => decide (y.r ≠ r)))) ∧ Kept (fun _ => False) w w' := by
  obtain ⟨bb, hv, rfl, hb, hr⟩ := h
  have hu : u < 257 := by omega
  have hz := fun W => book0_zero W
  have hrow := hb.row u hu
  have hrw : rowV hv (u : Int) = hv u := by unfold rowV; rw [if_pos (by omega)]; simp
  have hof := mof_at w bb M hv H (u : Int) hb
  rw [hrw] at hof
  obtain ⟨a, c, hf, hlc, hcm⟩ := hrow.form
  have hcell := hb.cell u hu
  have HA := Lib.hid (hr.asc u hu)
  have hlen : (H u).length ≤ 100000 := Nat.le_trans (hb.len u hu) hM
  have HUs := Lib.hid (hr.user u hu)
  have HFt := Lib.hid (hr.fit u hu)
  have HLb := Lib.hid (hb.len u hu)
  obtain ⟨l, hll⟩ : ∃ l, l = H u := ⟨_, rfl⟩
  have HBb := Lib.hid hb
  have HF := Lib.hid hf
  rw [hf] at hrow hof hcell
  rw [← hll] at hrow hof hcell hlc hlen HA HUs HFt HLb hn ⊢
  have HR := Lib.hid hr
  have HE := Lib.hid hrow; have HOf := Lib.hid hof; have HN := Lib.hid hn; have HLL := Lib.hid hll; have HCell := Lib.hid hcell
  have i1 : (0 : Int) ≤ (u : Int) := by omega
  have i2 : (u : Int) < 257 := by omega
  clear hb hr hrow hof hn hll hcell hf hrw
  go_enter Tryd.func15, Tryd.ntmps15
  go_wp2_with (first
    | (go_at_call 48; with_reducible refine HOf.out.mono ?_; rintro e W1 ⟨rfl, rfl⟩)
    | (go_at_call 47; with_reducible refine (place_any w _ l r HE.out HA.out (by omega)).mono ?_; rintro e W1 ⟨i, rfl, hp, k1⟩
       have hfd : foundAt l r i = true := by
         cases hf : foundAt l r i with
         | true => rfl
         | false => exact absurd (look_none HA.out hp hf) HN.out
       have hib : i < 100000 := by
         have := found_lt hfd.symm
         omega
       rw [hfd]
       have K1 := Lib.hid k1; have HPl := Lib.hid hp; have HFd := Lib.hid hfd
       have HB1 := Lib.hid (HBb.out.kept k1 (fun h => h) (fun _ _ _ _ h => h))
       have HCB1 := Lib.hid (book_copy HB1.out 92)
       clear hp k1 hfd)
    | (refine wpList_load_at rfl 92 _ rfl bb 0 rfl (bookL hv) _ (bookL_cells HB1.out) Tryd.underlying92 rfl (bookL_size hv) ?_)
    | (refine wpList_store_at rfl 92 _ _ rfl W1.heap.size 0 (bookL hv) rfl rfl (copy_side W1 hv).1 (copy_side W1 hv).2 (bookL_one HB1.out) (bookL_size hv) ?_
       generalize (W1.alloc (.cells book0.toArray 92)).setCells W1.heap.size 0 (bookL hv) = w2 at *
       have hc2 : w2.cell? ⟨bb, u, none⟩ = some (.slice a l.length c) := ((K1.out.then HCB1.out.2).cell (World.block_lt_of_cell? w _ HCell.out) (fun h => h)).trans HCell.out
       have hPQ : ∃ Q, Q = W1.heap.size := ⟨_, rfl⟩
       obtain ⟨Q, hQ⟩ := hPQ
       rw [← hQ] at HCB1
       rw [← hQ]
       have HQd := Lib.hid hQ
       clear hQ)
    | (go_at_call 50; with_reducible refine (eclone_any _ l w2 (HE.out.kept (K1.out.then HCB1.out.2) (fun _ _ h => h)) (by omega)).mono ?_; rintro e w3 ⟨v3, rfl, o3, k3⟩
       have O3 := Lib.hid o3; have K3 := Lib.hid k3
       clear o3 k3 hc2)
    | (go_at_call 49; with_reducible refine (delete_any w3 v3 l w2.heap.size i O3.out (by omega) (found_lt HFd.out.symm)).mono ?_; rintro e w4 ⟨v4, rfl, o4, k4⟩
       have KB : Hid (Kept (fun _ => False) w2 w4) := Lib.hid (K3.out.trans k4 (fun _ _ h => h) (fun q hq h => by have h : v3.ownBlock = some q := h; have := (World.ownsRow.lt O3.out q h).1; omega))
       have O4 := Lib.hid o4
       have hQ4 : w4.cell? ⟨Q, u, none⟩ = some (hv u) := (KB.out.cell (World.block_lt_of_cell? w2 _ (HCB1.out.1.cell u hu)) (fun h => h)).trans (HCB1.out.1.cell u hu)
       have fQ4 : w4.frozen? ⟨Q, u, none⟩ = false := (KB.out.frozen (p := ⟨Q, u, none⟩) (World.block_lt_of_cell? w2 _ (HCB1.out.1.cell u hu)) (fun h => h)).trans (HCB1.out.1.free u)
       rw [HF.out] at hQ4
       obtain ⟨a4, c4, hf4, _⟩ := o4.form
       generalize hm4 : (l.take i ++ l.drop (i + 1)).length = m4 at hf4
       subst hf4
       clear o4 k4 hm4))
  go_ret2
  have hdel : l.take i ++ l.drop (i + 1) = l.filter (fun y => decide (y.r ≠ r)) := by
    obtain ⟨e1, _, e3⟩ := place_split l r i HA.out HPl.out
    rw [e1, e3 HFd.out, ne_split l r HA.out]
  have o5 := O4.out
  rw [hdel] at o5
  have hst := book_store HCB1.out.1 KB.out o5.ents (fun k hk => (World.ownsRow.lt o5 k hk).1) (asc_filter _ HA.out) (Nat.le_refl M) (Nat.le_trans (List.length_filter_le _ _) HLb.out) (fun x hx => HUs.out x (List.mem_filter.1 hx).1) hu
  exact ⟨_, rfl, ⟨_, _, rfl, hst.1, HR.out.upd (fun x hx => HUs.out x (List.mem_filter.1 hx).1) (asc_filter _ HA.out) (fun x hx => HFt.out x (List.mem_filter.1 hx).1) hu1⟩,
    (K1.out.then HCB1.out.2).trans hst.2 (fun _ _ h => h) (fun q hq e => by have e : q = Q := e; have := K1.out.size; have := HQd.out; omega)⟩
end Go.Proofs.YtccanbjnbmihgaaDoor
