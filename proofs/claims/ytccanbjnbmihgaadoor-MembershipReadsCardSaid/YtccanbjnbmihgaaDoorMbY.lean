/-
  membership: Expire.
-/
import Derived.Test.YtccanbjnbmihgaaDoorMbX
namespace Go.Proofs.YtccanbjnbmihgaaDoor
open Go.RowKit Go.Shelf
set_option linter.unusedVariables false
set_option linter.unusedSimpArgs false

theorem OwnE.low {T : TypeId} {B B' : Nat} {w : World} {v : Value} {l : List Ent} (h : OwnE T B w v l) (hb : B' ≤ B) : OwnE T B' w v l := by
  unfold OwnE at h ⊢
  refine ⟨h.1, ?_⟩
  rcases h.2 with h | ⟨g, cap, cur, h1, h2, h3⟩
  · exact Or.inl h
  · exact Or.inr ⟨g, cap, cur, h1, by omega, h3⟩

theorem isSome_set {w : World} {a : Addr} {v : Value} (h : (w.cell? a).isSome = true) : ((w.setCell a v).cell? a).isSome = true := by
  obtain ⟨y, hy⟩ := Option.isSome_iff_exists.1 h
  first
    | rw [World.cell?_setCell_same _ hy]; rfl
    | rw [World.cell?_setCell_same _ _ hy]; rfl
    | rw [World.cell?_setCell_same _ _ _ hy]; rfl

/-- The rows below k expired, the others empty. -/
def expTo (H : Nat → List Ent) (d : Int) (k : Nat) : Nat → List Ent := fun u => if u < k then (H u).filter (keepE d) else []
theorem expTo_zero (H : Nat → List Ent) (d : Int) : expTo H d 0 = fun _ => [] := by
  funext u; unfold expTo; rw [if_neg (by omega)]
theorem expTo_succ (H : Nat → List Ent) (d : Int) (k : Nat) : upd (expTo H d k) k ((H k).filter (keepE d)) = expTo H d (k + 1) := by
  funext u
  unfold upd expTo
  by_cases e : u = k
  · subst e; rw [if_pos rfl, if_pos (by omega)]
  · rw [if_neg e]
    by_cases h : u < k
    · rw [if_pos h, if_pos (by omega)]
    · rw [if_neg h, if_neg (by omega)]

set_option maxRecDepth 100000 in
set_option maxHeartbeats 3200000 in
theorem expire_nil (w : World) (d : Int) : Calls Tryd.prog 17 #[.pointer none, .int .i64 d] w fun e w' => e = .returned (.pointer none) ∧ Kept (fun _ => False) w w' := by
  go_enter Tryd.func17, Tryd.ntmps17
  go_wp2_with fail
  go_ret
  exact ⟨rfl, Kept.alloc _ _ _⟩

set_option maxRecDepth 100000 in
set_option maxHeartbeats 3200000 in
theorem expire_any (w : World) (v : Value) (M : Nat) (H : Nat → List Ent) (d : Int) (h : BookV w v M H) (hM : M ≤ 100000) :
    Calls Tryd.prog 17 #[v, .int .i64 d] w fun e w' =>
      ∃ v', e = .returned v' ∧ BookV w' v' M (fun u => (H u).filter (keepE d)) ∧ Kept (fun _ => False) w w' := by
  obtain ⟨bb, hv, rfl, hb, hr⟩ := h
  have HB := Lib.hid hb; have HR := Lib.hid hr
  have hsz : (Tryd.prog.info? 90).map (·.size) = some (bookL hv).length := by rw [bookL_length]; kernel_rfl
  have HSz := Lib.hid hsz
  have hlen : ∀ u, u < 257 → (H u).length ≤ 100000 := fun u hu => Nat.le_trans (hb.len u hu) hM
  have HLn := Lib.hid hlen
  have hDw : (w.alloc (.cells #[.int .i64 d] 3)).cell? ⟨w.heap.size, 0, none⟩ = some (.int .i64 d) := by go_simp
  have ka : Kept (fun _ => False) w (w.alloc (.cells #[.int .i64 d] 3)) := Kept.alloc _ _ _
  have HD := Lib.hid hDw; have KA := Lib.hid ka
  clear hb hr hsz hlen hDw ka
  go_enter Tryd.func17, Tryd.ntmps17
  go_wp2_with fail
  generalize w.alloc (.cells #[.int .i64 d] 3) = w1 at *
  obtain ⟨D, hD⟩ : ∃ D, D = w.heap.size := ⟨_, rfl⟩
  rw [← hD] at HD ⊢
  have HDe := Lib.hid hD
  clear hD
  refine (mnew_at w1).mono ?_
  rintro e w2 ⟨rfl, hb2, k2⟩
  obtain ⟨Q, hQ⟩ : ∃ Q, Q = w1.heap.size := ⟨_, rfl⟩
  rw [← hQ] at hb2 ⊢
  have HQ := Lib.hid hQ; have HB2 := Lib.hid hb2; have K2 := Lib.hid k2
  clear hQ hb2 k2
  have hb3 := HB.out.kept (KA.out.then K2.out) (fun h => h) (fun _ _ _ _ h => h)
  go_wp2_with (first
    | (refine wpList_load_at rfl 90 _ rfl bb 0 rfl (bookL hv) _ (bookL_cells hb3) Tryd.underlying90 rfl HSz.out ?_))
  have HB3 := Lib.hid hb3
  clear hb3
  go_loopw [15] (fun iv wr => ∃ k : Nat, k ≤ 257 ∧ iv = .int .i64 (k : Int) ∧ Hid (∃ hw, BookAt wr Q M hw (expTo H d k)) ∧ Hid (Kept (fun q => q = Q) w2 wr)) (fun iv _ => 257 - (intOf iv).toNat)
  case atStart =>
    refine ⟨0, Nat.zero_le _, rfl, Lib.hid ⟨fun _ => .slice none 0 0, ?_⟩, Lib.hid (Kept.refl _ _)⟩
    rw [expTo_zero]
    exact ⟨HB2.out.cell, HB2.out.free, HB2.out.row, HB2.out.apart, HB2.out.asc, fun u hu => Nat.zero_le _, HB2.out.user⟩
  case round =>
    obtain ⟨k, hk, rfl, hbk, hkw⟩ := hrel
    have hbQ : bb ≠ Q := by
      have h1 := World.block_lt_of_cell? w _ (HB.out.cell 0 (by omega))
      have h2 := KA.out.size
      have h3 := HQ.out
      have h1 : bb < w.heap.size := h1
      omega
    by_cases hlt : k < 257
    · have l1 : (k : Int) < 257 := by omega
      have l0 : (0 : Int) ≤ (k : Int) := by omega
      obtain ⟨hw, hbk⟩ := hbk.out
      have hrow : Ents wr (hv k) (H k) := (HB3.out.row k hlt).kept hkw.out (fun q hq e => by
        have h1 := (HB.out.row k hlt).blt q hq
        have h2 := KA.out.size
        have h3 := HQ.out
        omega)
      obtain ⟨a, c, hf, _, _⟩ := hrow.form
      have hidx := idx_row wr (bookL hv) k _ hlt (bookL_at hv k hlt)
      have hidx2 : ∀ W, (Instr.index 90 (.agg (bookL hv).toArray) (.int .i64 (k : Int))).run Tryd.prog W = .ok (.slice a (H k).length c) W := fun W => by
        rw [← hf]; exact idx_row W (bookL hv) k _ hlt (bookL_at hv k hlt)
      rw [hf] at hrow
      have hDr : wr.cell? ⟨D, 0, none⟩ = some (.int .i64 d) := (hkw.out.cell (World.block_lt_of_cell? w2 _ ((K2.out.cell (World.block_lt_of_cell? w1 _ HD.out) (fun h => h)).trans HD.out)) (fun h => by
        have h : D = Q := h
        have h1 : D < w1.heap.size := World.block_lt_of_cell? w1 _ HD.out
        have := HQ.out; omega)).trans ((K2.out.cell (World.block_lt_of_cell? w1 _ HD.out) (fun h => h)).trans HD.out)
      obtain ⟨aw, cw, hfw, _, _⟩ := (hbk.row k hlt).form
      have hcQ := hbk.cell k hlt
      rw [hfw] at hcQ
      generalize hlw : (expTo H d k k).length = lw at hfw hcQ
      have HC : Hid (∀ W, Kept (fun _ => False) wr W → W.cell? ⟨Q, k, none⟩ = some (.slice aw lw cw) ∧ W.frozen? ⟨Q, k, none⟩ = false) := Lib.hid fun W kw =>
        ⟨(kw.cell (World.block_lt_of_cell? wr _ hcQ) (fun h => h)).trans hcQ, (kw.frozen (p := ⟨Q, k, none⟩) (World.block_lt_of_cell? wr _ hcQ) (fun h => h)).trans (hbk.free k)⟩
      have HCl : Hid (∀ W, Kept (fun _ => False) wr W → Calls Tryd.prog 50 #[.slice a (H k).length c] W fun e w' => ∃ v', e = .returned v' ∧ OwnE 87 W.heap.size w' v' (H k) ∧ Kept (fun _ => False) W w') := Lib.hid fun W kw =>
        eclone_any _ (H k) W (hrow.kept kw (fun _ _ h => h)) (by have := HLn.out k hlt; omega)
      have HDl : Hid (∀ W Wa v B, Kept (fun _ => False) wr W → Kept (fun _ => False) W Wa → OwnE 87 W.heap.size Wa v (H k) → B = W.heap.size → Calls Tryd.prog 51 #[v, .func (.func 52) #[] #[.pointer (some ⟨D, 0, none⟩)]] Wa fun e w' =>
          ∃ v', e = .returned v' ∧ OwnE 87 wr.heap.size w' v' ((H k).filter (keepE d)) ∧ Kept (fun _ => False) wr w') := Lib.hid fun W Wa v B kw ka ho hB => by
        have hlD : D < wr.heap.size := World.block_lt_of_cell? wr _ hDr
        refine (deleteF_any Wa v (H k) W.heap.size D d ho (by have := HLn.out k hlt; omega) (((kw.then ka).cell hlD (fun h => h)).trans hDr) (by have := kw.size; omega)).mono ?_
        rintro e w' ⟨v', rfl, o', k'⟩
        refine ⟨v', rfl, ?_, (kw.then ka).trans k' (fun _ _ h => h) (fun q hq h => by have h : v.ownBlock = some q := h; have := (World.ownsRow.lt ho q h).1; have := kw.size; omega)⟩
        exact OwnE.low o' kw.size
      have HBK := Lib.hid hbk; have HLW := Lib.hid hlw; have HFW := Lib.hid hfw
      clear hbk hrow hidx hDr hcQ hlw hfw hf
      go_wp2_with (simp only [hidx2])
      go_region_with
        ((first | (go_at_call 51; with_reducible refine (HDl.out _ _ _ _ K4.out K5a.out O5.out rfl).mono ?_; rintro e w6 ⟨v6, rfl, o6, k6⟩; have O6 := Lib.hid o6; have K6 := Lib.hid k6; obtain ⟨a6, c6, hf6, _, _⟩ := o6.form; generalize ((H k).filter (keepE d)).length = m6 at hf6; have k6z := k6; subst hf6; have q6 := (HC.out _ k6).1; have q7 := (HC.out _ k6).2; clear o6 k6) | (go_at_call 50; with_reducible refine (HCl.out _ (by first | exact Kept.refl _ _ | exact (Kept.refl _ _).drew)).mono ?_; rintro e w5 ⟨v5, rfl, o5, k5⟩; have O5 := Lib.hid o5; have K5a := Lib.hid k5; have K4 : Hid (Kept (fun _ => False) wr _) := Lib.hid (Kept.refl _ _).drew; have K5 := Lib.hid ((K4.out).then k5); clear o5 k5)))
      all_goals
        have hst := book_store HBK.out K6.out O6.out.ents (fun q hq => (World.ownsRow.lt O6.out q hq).1) (asc_filter _ (HR.out.asc k hlt)) (Nat.le_refl M) (Nat.le_trans (List.length_filter_le _ _) (HB.out.len k hlt)) (fun x hx => HR.out.user k hlt x (List.mem_filter.1 hx).1) hlt
        rw [expTo_succ] at hst
        have hI1 : Hid (∃ hw', BookAt (w6.setCell ⟨Q, k, none⟩ (.slice a6 m6 c6)) Q M hw' (expTo H d (k + 1))) := Lib.hid ⟨_, hst.1⟩
        have hI2 := Lib.hid (hkw.out.trans hst.2 (T := fun q => q = Q) (fun _ _ h => h) (fun _ _ h => h))
        clear hst
        go_wp2_with fail
        go_roundw
        case rel => first | exact ⟨k + 1, by omega, by go_num, hI1, hI2⟩ | ((repeat apply Exists.intro); exact ⟨⟨k + 1, by omega, by go_num, hI1, hI2⟩, rfl⟩)
        case measure => simp [intOf]; omega
    · obtain rfl : k = 257 := by omega
      obtain ⟨hw, hbk⟩ := hbk.out
      have HBK := Lib.hid hbk
      clear hbk
      go_wp2_with fail
      go_ret
      refine ⟨_, rfl, ⟨Q, hw, rfl, ?_, HR.out.filter (keepE d) (fun u hu => rfl)⟩, ((KA.out.then K2.out)).trans hkw.out (fun _ _ h => h) (fun q hq e => by
        have e : q = Q := e
        have := HQ.out
        have := KA.out.size
        omega)⟩
      have e : ∀ u, u < 257 → expTo H d 257 u = (H u).filter (keepE d) := fun u hu => by unfold expTo; rw [if_pos hu]
      have b := HBK.out
      exact ⟨b.cell, b.free, fun u hu => by have := b.row u hu; rwa [e u hu] at this, b.apart, fun u hu => by have := b.asc u hu; rwa [e u hu] at this, fun u hu => by have := b.len u hu; rwa [e u hu] at this, fun u hu => by have := b.user u hu; rwa [e u hu] at this⟩
end Go.Proofs.YtccanbjnbmihgaaDoor
