/-
  slices.IndexFunc and slices.DeleteFunc at Expire's literal.
-/
import Derived.Test.YtccanbjnbmihgaaDoorMbD
import Derived.Test.YtccanbjnbmihgaaDoorMbB
namespace Go.Proofs.YtccanbjnbmihgaaDoor
open Go.RowKit Go.Shelf
set_option linter.unusedVariables false
set_option linter.unusedSimpArgs false

set_option maxRecDepth 100000 in
set_option maxHeartbeats 3200000 in
theorem expF_any (x : Ent) (d : Int) (D : Nat) (w : World) (hD : w.cell? ⟨D, 0, none⟩ = some (.int .i64 d)) : Calls Tryd.prog 52 #[entV x, .pointer (some ⟨D, 0, none⟩)] w fun e w' => e = .returned (.bool (decide (x.t < d))) ∧ Kept (fun _ => False) w w' := by
  unfold entV
  have hlt := World.block_lt_of_cell? w _ hD
  have hD2 : (w.alloc (.cells #[.int .i64 x.u, .int .i64 x.r, .int .i64 x.t] 87)).cell? ⟨D, 0, none⟩ = some (.int .i64 d) := (World.cell?_alloc_past _ _ _ hlt).trans hD
  go_enter Tryd.func52, Tryd.ntmps52
  go_wp2_with fail
  go_ret
  exact ⟨rfl, Kept.alloc _ _ _⟩

/-- What IndexFunc returns. -/
def IdxF (l : List Ent) (d i : Int) : Prop := (i = -1 ∧ ∀ k, k < l.length → d ≤ (l.getD k ent0).t) ∨ ∃ k : Nat, i = (k : Int) ∧ k < l.length ∧ (l.getD k ent0).t < d ∧ ∀ j, j < k → d ≤ (l.getD j ent0).t

set_option maxRecDepth 100000 in
set_option maxHeartbeats 3200000 in
theorem indexF_any (w : World) (v : Value) (l : List Ent) (d : Int) (D : Nat) (hv : Ents w v l) (hD : w.cell? ⟨D, 0, none⟩ = some (.int .i64 d)) :
    Calls Tryd.prog 83 #[v, .func (.func 52) #[] #[.pointer (some ⟨D, 0, none⟩)]] w fun e w' =>
      ∃ i : Int, e = .returned (.int .i64 i) ∧ IdxF l d i ∧ Kept (fun _ => False) w w' := by
  obtain ⟨a, c, rfl, h1, h2⟩ := hv.form
  have HV := Lib.hid hv; have HD := Lib.hid hD
  unfold maxLen at h2
  clear hv hD
  go_enter Tryd.func83, Tryd.ntmps83
  go_wp2_with fail
  go_loopw [8] (fun iv wr => ∃ k : Nat, k ≤ l.length ∧ iv = .int .i64 (k : Int) ∧ Hid (∀ j, j < k → d ≤ (l.getD j ent0).t) ∧ Hid (Kept (fun _ => False) w wr)) (fun iv _ => l.length - (intOf iv).toNat)
  case atStart => exact ⟨0, Nat.zero_le _, rfl, Lib.hid (fun j hj => absurd hj (by omega)), Lib.hid (Kept.refl _ _)⟩
  case round =>
    obtain ⟨k, hk, rfl, hlo, hkw⟩ := hrel
    by_cases hlt : k < l.length
    · have l1 : (k : Int) < (l.length : Int) := by omega
      have l0 : (0 : Int) ≤ (k : Int) := by omega
      obtain ⟨g, off, rfl, hg, hc⟩ := (HV.out.kept hkw.out (fun _ _ h => h)).at (k := k) hlt
      generalize hx : l.getD k ent0 = x at hc
      obtain ⟨xu, xr, xt⟩ := x
      obtain ⟨c0, c1, c2⟩ := hc
      simp only at c0 c1 c2
      have hDw : wr.cell? ⟨D, 0, none⟩ = some (.int .i64 d) := (hkw.out.cell (World.block_lt_of_cell? w _ HD.out) (fun h => h)).trans HD.out
      obtain ⟨b, hb⟩ : ∃ b, b = decide (xt < d) := ⟨_, rfl⟩
      have HC : Hid (Calls Tryd.prog 52 #[.agg #[.int .i64 xu, .int .i64 xr, .int .i64 xt], .pointer (some ⟨D, 0, none⟩)] wr fun e w' => e = .returned (.bool b) ∧ Kept (fun _ => False) wr w') := Lib.hid (by rw [hb]; exact expF_any ⟨xu, xr, xt⟩ d D wr hDw)
      have HX := Lib.hid hx; have HBb := Lib.hid hb
      clear hx hb hDw hg
      go_wp2_with (first | (go_at_call 52; refine HC.out.mono ?_; rintro e w2 ⟨rfl, k2⟩
                            have K2 : Hid (Kept (fun _ => False) w w2) := Lib.hid (hkw.out.then k2)
                            clear k2
                            cases b))
      · have hI : Hid (∀ j, j < k + 1 → d ≤ (l.getD j ent0).t) := Lib.hid fun j hj => by
          rcases Nat.lt_or_ge j k with h | h
          · exact hlo.out j h
          · obtain rfl : j = k := by omega
            rw [HX.out]; exact Int.not_lt.1 (of_decide_eq_false HBb.out.symm)
        go_roundw
        case rel => first | exact ⟨k + 1, by omega, by go_num, hI, K2⟩ | ((repeat apply Exists.intro); exact ⟨⟨k + 1, by omega, by go_num, hI, K2⟩, rfl⟩)
        case measure => simp [intOf]; omega
      · go_ret
        exact ⟨_, rfl, Or.inr ⟨k, rfl, hlt, by rw [HX.out]; exact of_decide_eq_true HBb.out.symm, hlo.out⟩, K2.out⟩
    · obtain rfl : k = l.length := by omega
      go_wp2_with fail
      go_ret
      exact ⟨_, rfl, Or.inl ⟨rfl, hlo.out⟩, hkw.out⟩

def keepE (d : Int) (x : Ent) : Bool := !decide (x.t < d)

/-- What DeleteFunc's loop keeps: the row, written up to i; read up to j. -/
structure DelF (w wr : World) (B g n c i j : Nat) (l : List Ent) (d : Int) (S : List Ent) : Prop where
  own : OwnE 87 B wr (.slice (some ⟨g, 0, none⟩) n c) S
  len : S.length = n
  done : S.take i = (l.take j).filter (keepE d)
  rest : S.drop j = l.drop j
  kept : Kept (fun k => k = g) w wr
theorem take_succ_getD (l : List Ent) (j : Nat) (hj : j < l.length) : l.take (j + 1) = l.take j ++ [l.getD j ent0] := by
  rw [List.take_add_one]; simp [List.getD, hj]
theorem DelF.get {w wr : World} {B g n c i j : Nat} {l S : List Ent} {d : Int} (h : DelF w wr B g n c i j l d S) (hn : n = l.length) (hj : j < n) : S.getD j ent0 = l.getD j ent0 := by
  have h1 : (S.drop j)[0]? = (l.drop j)[0]? := by rw [h.rest]
  rw [List.getElem?_drop, List.getElem?_drop, Nat.add_zero] at h1
  simp [List.getD, h1]
theorem DelF.skip {w wr : World} {B g n c i j : Nat} {l S : List Ent} {d : Int} (h : DelF w wr B g n c i j l d S) (hn : n = l.length) (hj : j < n) (hx : keepE d (l.getD j ent0) = false) : DelF w wr B g n c i (j + 1) l d S := by
  refine ⟨h.own, h.len, ?_, ?_, h.kept⟩
  · rw [take_succ_getD l j (by omega), List.filter_append, h.done]
    rw [List.filter_cons, if_neg (by rw [hx]; simp), List.filter_nil, List.append_nil]
  · rw [← List.drop_drop, ← List.drop_drop, h.rest]
theorem DelF.take {w wr : World} {B g n c i j : Nat} {l S : List Ent} {d : Int} (h : DelF w wr B g n c i j l d S) (hn : n = l.length) (hij : i < j) (hj : j < n) (hx : keepE d (l.getD j ent0) = true) : DelF w (wr.setCells g (i * 3) (entC (l.getD j ent0))) B g n c (i + 1) (j + 1) l d (S.set i (l.getD j ent0)) := by
  have hil : i < S.length := by rw [h.len]; omega
  refine ⟨h.own.put h.len.symm (by omega), by rw [List.length_set]; exact h.len, ?_, ?_, h.kept.trans (setCells_kept g _ _ _) (fun _ _ h => h) (fun _ _ h => h)⟩
  · rw [take_succ_getD l j (by omega), List.filter_append, ← h.done, List.take_add_one, List.take_set_of_le (Nat.le_refl i)]
    rw [List.filter_cons, if_pos hx, List.filter_nil, List.getElem?_set_self hil]
    rfl
  · rw [List.drop_set_of_lt (by omega), ← List.drop_drop, ← List.drop_drop, h.rest]
theorem DelF.on {w a b : World} {B g n c i j : Nat} {l S : List Ent} {d : Int} (h : DelF w a B g n c i j l d S) (hk : Kept (fun _ => False) a b) : DelF w b B g n c i j l d S :=
  ⟨h.own.kept hk (fun _ _ h => h), h.len, h.done, h.rest, h.kept.trans hk (fun _ _ h => h) (fun _ _ h => h.elim)⟩

set_option maxRecDepth 100000 in
set_option maxHeartbeats 1600000 in
theorem deleteF_any (w : World) (v : Value) (l : List Ent) (B D : Nat) (d : Int) (hown : OwnE 87 B w v l) (hl : l.length ≤ 1000000) (hD : w.cell? ⟨D, 0, none⟩ = some (.int .i64 d)) (hDB : D < B) :
    Calls Tryd.prog 51 #[v, .func (.func 52) #[] #[.pointer (some ⟨D, 0, none⟩)]] w fun e w' =>
      ∃ v', e = .returned v' ∧ OwnE 87 B w' v' (l.filter (keepE d)) ∧ Kept (blk v) w w' := by
  have HO := Lib.hid hown
  have HI := Lib.hid (indexF_any w v l d D hown.ents hD)
  have HD := Lib.hid hD
  obtain ⟨a0, c, rfl, h1, h2⟩ := hown.form
  obtain ⟨n, hn⟩ : ∃ n, n = l.length := ⟨_, rfl⟩
  rw [← hn] at HO HI h1 ⊢
  have HN := Lib.hid hn
  unfold maxLen at h2
  have hnl : n ≤ 1000000 := by omega
  clear hown hD hn hl
  go_enter Tryd.func51, Tryd.ntmps51
  go_wp2_with (first | (go_at_call 83; with_reducible refine HI.out.mono ?_; rintro e w1 ⟨q, rfl, hq, k1⟩
                        have K1 := Lib.hid k1; clear k1
                        rcases hq with ⟨rfl, hall⟩ | ⟨i0, rfl, hi0, hx0, hlo0⟩
                        all_goals (try (have hi0n : i0 < n := by have := HN.out; omega))))
  · go_ret
    refine ⟨_, rfl, ?_, K1.out.mono fun _ _ h => h.elim⟩
    have : l.filter (keepE d) = l := List.filter_eq_self.2 fun y hy => by
      obtain ⟨j, hj, rfl⟩ := List.getElem_of_mem hy
      have := hall j hj
      rw [show l.getD j ent0 = l[j] by simp [List.getD, hj]] at this
      unfold keepE; simp; omega
    rw [this]
    exact HO.out.kept K1.out (fun _ _ h => h)
  · obtain ⟨g, rfl⟩ : ∃ g, a0 = some ⟨g, 0, none⟩ := by
      rcases HO.out.2 with ⟨h, h'⟩ | ⟨g, _, _, h, _⟩
      · have := HN.out; omega
      · cases h; exact ⟨g, rfl⟩
    have hinv : Hid (DelF w w1 B g n c i0 (i0 + 1) l d l) := by
      refine Lib.hid ⟨HO.out.kept K1.out (fun _ _ h => h), HN.out.symm, ?_, rfl, K1.out.mono fun _ _ h => h.elim⟩
      rw [take_succ_getD l i0 hi0, List.filter_append]
      have e1 : (l.take i0).filter (keepE d) = l.take i0 := List.filter_eq_self.2 fun y hy => by
        obtain ⟨j, hj, rfl⟩ := List.getElem_of_mem hy
        rw [List.length_take] at hj
        have := hlo0 j (by omega)
        rw [show l.getD j ent0 = l[j] by simp [List.getD, show j < l.length by omega]] at this
        rw [List.getElem_take]
        unfold keepE; simp; omega
      have e2 : keepE d (l.getD i0 ent0) = false := by unfold keepE; rw [decide_eq_true hx0]; rfl
      rw [e1, List.filter_cons, if_neg (by rw [e2]; simp), List.filter_nil, List.append_nil]
    obtain ⟨_, _, _, _, hBg, hgw⟩ := HO.out.cellsC
    clear hlo0 hx0 hi0 HI
    go_wp2_with fail
    go_loopw [5, 6] (fun iv jv wr => ∃ i j : Nat, ∃ S, iv = .int .i64 (i : Int) ∧ jv = .int .i64 (j : Int) ∧ i < j ∧ j ≤ n ∧ Hid (DelF w wr B g n c i j l d S)) (fun _ jv _ => n - (intOf jv).toNat)
    case atStart => exact ⟨i0, i0 + 1, l, rfl, by go_num, by omega, by omega, hinv⟩
    case round =>
      obtain ⟨i, j, S, rfl, rfl, hij, hjn, hdel⟩ := hrel
      clear hinv
      by_cases hlt : j < n
      · have l1 : (j : Int) < (n : Int) := by omega
        have l0 : (0 : Int) ≤ (j : Int) := by omega
        have l2 : (i : Int) < (n : Int) := by omega
        have l3 : (0 : Int) ≤ (i : Int) := by omega
        obtain ⟨g', off, hgg, hg, hc⟩ := hdel.out.own.ents.at (k := j) (by rw [hdel.out.len]; exact hlt)
        obtain ⟨rfl, rfl⟩ : g' = g ∧ off = 0 := by
          injection hgg with hgg; injection hgg with h1 h2; exact ⟨h1.symm, h2.symm⟩
        rw [hdel.out.get HN.out hlt] at hc
        generalize hx : l.getD j ent0 = x at hc
        obtain ⟨xu, xr, xt⟩ := x
        obtain ⟨c0, c1, c2⟩ := hc
        simp only [Nat.zero_add] at c0 c1 c2
        obtain ⟨b, hb⟩ : ∃ b, b = decide (xt < d) := ⟨_, rfl⟩
        have HDL := Lib.hid (hdel.out.on (Kept.alloc (fun _ => False) wr (.cells #[.int .i64 xu, .int .i64 xr, .int .i64 xt] 87)))
        have hDw : (wr.alloc (.cells #[.int .i64 xu, .int .i64 xr, .int .i64 xt] 87)).cell? ⟨D, 0, none⟩ = some (.int .i64 d) := (HDL.out.kept.cell (World.block_lt_of_cell? w _ HD.out) (fun h => by have h : D = g' := h; omega)).trans HD.out
        have HC : Hid (Calls Tryd.prog 52 #[.agg #[.int .i64 xu, .int .i64 xr, .int .i64 xt], .pointer (some ⟨D, 0, none⟩)] (wr.alloc (.cells #[.int .i64 xu, .int .i64 xr, .int .i64 xt] 87)) fun e w' => e = .returned (.bool b) ∧ Kept (fun _ => False) (wr.alloc (.cells #[.int .i64 xu, .int .i64 xr, .int .i64 xt] 87)) w') := Lib.hid (by rw [hb]; exact expF_any ⟨xu, xr, xt⟩ d D _ hDw)
        obtain ⟨b0, b1, b2⟩ := box3c wr xu xr xt 87
        have HX := Lib.hid hx; have HBb := Lib.hid hb
        have HBox := Lib.hid (And.intro b0 (And.intro b1 b2))
        clear hx hb hDw hg hdel b0 b1 b2
        go_wp2_with fail
        refine HC.out.mono ?_
        obtain ⟨b0, b1, b2⟩ := HBox.out
        clear HC HBox c0 c1 c2
        generalize wr.alloc (.cells #[.int .i64 xu, .int .i64 xr, .int .i64 xt] 87) = W2 at *
        generalize wr.heap.size = Q at *
        rintro e w3 ⟨rfl, k3⟩
        have e0 : w3.cell? ⟨Q, 0, none⟩ = some (.int .i64 xu) := (k3.cell (World.block_lt_of_cell? W2 _ b0) (fun h => h)).trans b0
        have e1 : w3.cell? ⟨Q, 1, none⟩ = some (.int .i64 xr) := (k3.cell (World.block_lt_of_cell? W2 _ b1) (fun h => h)).trans b1
        have e2 : w3.cell? ⟨Q, 2, none⟩ = some (.int .i64 xt) := (k3.cell (World.block_lt_of_cell? W2 _ b2) (fun h => h)).trans b2
        have HD3 := Lib.hid (HDL.out.on k3)
        clear b0 b1 b2 k3 HDL
        cases b
        · obtain ⟨g2, y0, y1, y2, hgg2, hb2, hs2, z0, z1, z2, f0, f1, f2⟩ := HD3.out.own.slot HD3.out.len (show i < n by omega)
          obtain rfl : g' = g2 := by injection hgg2 with h; injection h
          have hI : Hid (DelF w (w3.setCells g' (i * 3) (entC ⟨xu, xr, xt⟩)) B g' n c (i + 1) (j + 1) l d (S.set i ⟨xu, xr, xt⟩)) := by
            have := HD3.out.take HN.out hij hlt (by rw [HX.out]; unfold keepE; rw [← HBb.out]; rfl)
            rw [HX.out] at this
            exact Lib.hid this
          go_wp2_with fail
          go_roundw
          case rel => first | exact ⟨i + 1, j + 1, _, by go_num, by go_num, by omega, by omega, hI⟩ | ((repeat apply Exists.intro); exact ⟨⟨i + 1, j + 1, _, by go_num, by go_num, by omega, by omega, hI⟩, rfl⟩)
          case measure => simp [intOf]; omega
        · have hI := Lib.hid (HD3.out.skip HN.out hlt (by rw [HX.out]; unfold keepE; rw [← HBb.out]; rfl))
          go_wp2_with fail
          go_roundw
          case rel => first | exact ⟨i, j + 1, S, rfl, by go_num, by omega, by omega, hI⟩ | ((repeat apply Exists.intro); exact ⟨⟨i, j + 1, S, rfl, by go_num, by omega, by omega, hI⟩, rfl⟩)
          case measure => simp [intOf]; omega
      · obtain rfl : j = n := by omega
        obtain ⟨cc1, cc2, _⟩ := hdel.out.own.cellsC
        have l2 : (i : Int) ≤ (j : Int) := by omega
        have l3 : (0 : Int) ≤ (i : Int) := by omega
        have l4 : ¬ (c = i) := by omega
        have l5 : i ≤ j := by omega
        have l6 : i ≤ c := by omega
        have l7 : (i : Int) ≤ (c : Int) := by omega
        have hcl : ∀ ty sc, (Builtin.clear_ #[85] ty #[.slice (some ⟨g, i * 3, none⟩) (j - i) sc]).run Tryd.prog wr = .ok (.tuple #[]) (wr.setCells g (i * 3) (zeroE (j - i))) := fun ty sc =>
          run_clear_wide wr _ 87 ty _ Tryd.underlying85 zero_ent g (i * 3) (j - i) sc (by omega) (zeroE (j - i)) rfl (zeroE_one _) (fun q hq => cc1 _ (by rw [zeroE_length] at hq; omega)) (fun q hq => cc2 _)
        have hres := hdel.out.own.cutTo hdel.out.len.symm (m := i) (by omega) (zeroE (j - i)) (by rw [zeroE_length]; omega)
        rw [hdel.out.done, List.take_of_length_le (by have := HN.out; omega)] at hres
        have HR := Lib.hid hres
        have HK : Hid (Kept (fun k => k = g) w (wr.setCells g (i * 3) (zeroE (j - i)))) := Lib.hid (hdel.out.kept.trans (setCells_kept g _ _ _) (fun _ _ h => h) (fun _ _ h => h))
        clear hres cc1 cc2 hdel
        go_wp2_with (at_builtin; refine wpList_clear_run _ rfl _ _ rfl _ rfl (hcl _ _) ?_)
        go_ret
        exact ⟨_, rfl, HR.out, HK.out.mono fun q _ hq => by show _ = _; rw [hq]; rfl⟩
end Go.Proofs.YtccanbjnbmihgaaDoor
