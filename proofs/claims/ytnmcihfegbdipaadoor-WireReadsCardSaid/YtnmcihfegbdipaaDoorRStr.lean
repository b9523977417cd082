/-
  wire.Reader: String, Bytes, Flag.
-/
import Derived.Test.YtnmcihfegbdipaaDoorPiece
import Derived.Test.YtnmcihfegbdipaaDoorStrW
namespace Go.Proofs.YtnmcihfegbdipaaDoor
open Go.RowKit

theorem pieceS_byte {xs : List Nat} (most err : Int) (h : ∀ b ∈ xs, b < 256) : (∀ b ∈ (pieceS xs most err).1, b < 256) ∧ (∀ b ∈ (pieceS xs most err).2.1, b < 256) := by
  unfold pieceS
  repeat' split
  all_goals first
    | exact ⟨by simp, h⟩
    | exact ⟨fun b hb => h b (List.mem_of_mem_drop (List.mem_of_mem_take hb)), fun b hb => h b (List.mem_of_mem_drop hb)⟩

set_option maxRecDepth 100000 in
set_option maxHeartbeats 400000 in
theorem rstring_any (w : World) (rb : Nat) (v : Value) (xs : List Nat) (err most : Int) (h : Rd w rb v xs err) (hby : ∀ b ∈ xs, b < 256) (hmost : Hid (most < 9223372036854775808)) :
    Calls Tryd.prog 64 #[.pointer (some ⟨rb, 0, none⟩), .int .i64 most] w fun e w' => e = .returned (.string (strOf (pieceS xs most err).1)) ∧
      ∃ v', Rd w' rb v' (pieceS xs most err).2.1 (pieceS xs most err).2.2 ∧ v'.ownBlock = v.ownBlock ∧ Kept (fun k => k = rb) w w' := by
  have hp := piece_any w rb v xs err most h hby hmost
  generalize pieceS xs most err = q at hp ⊢
  have HP := Lib.hid hp; clear hp
  clear h hby
  go_enter Tryd.func64, Tryd.ntmps64
  go_wp2_with fail
  refine HP.out.mono ?_
  rintro e w1 ⟨p, v', rfl, hr, _, hrd, hv, hk⟩
  have hs := reads_str hr
  have HV := Lib.hid hv; clear hv
  go_wp2_with fail
  go_ret
  exact ⟨rfl, v', hrd, HV.out, hk⟩

set_option maxRecDepth 100000 in
set_option maxHeartbeats 400000 in
theorem rbytes_any (w : World) (rb : Nat) (v : Value) (xs : List Nat) (err most : Int) (h : Rd w rb v xs err) (hby : ∀ b ∈ xs, b < 256) (hmost : Hid (most < 9223372036854775808)) (hl : (pieceS xs most err).1.length ≤ 140737488355328) :
    Calls Tryd.prog 66 #[.pointer (some ⟨rb, 0, none⟩), .int .i64 most] w fun e w' => ∃ q v', e = .returned q ∧ Fresh w' w.heap.size q (pieceS xs most err).1 ∧
      Rd w' rb v' (pieceS xs most err).2.1 (pieceS xs most err).2.2 ∧ v'.ownBlock = v.ownBlock ∧ Kept (fun k => k = rb) w w' := by
  have hp := piece_any w rb v xs err most h hby hmost
  have hblt := h.lt
  have hvlt := h.reads.lt
  generalize pieceS xs most err = q at hp hl ⊢
  have HP := Lib.hid hp; clear hp
  clear h hby
  go_enter Tryd.func66, Tryd.ntmps66
  go_wp2_with fail
  refine HP.out.mono ?_
  rintro e w1 ⟨p, v', rfl, hr, _, hrd, hv, hk⟩
  have HV := Lib.hid hv; clear hv
  go_wp2_with fail
  refine (clone_any p _ w1 hr hl).mono ?_
  rintro e w2 ⟨c, rfl, hf, hk2⟩
  go_wp2_with fail
  go_ret
  refine ⟨c, v', rfl, ⟨?_, fun k hk' => Nat.le_trans hk.size (hf.block k hk')⟩, hrd.kept hk2 (fun h => h) (fun _ _ h => h), HV.out, hk.trans hk2 (fun _ _ h => h) (fun _ _ h => h.elim)⟩
  have ho := hf.own
  refine ⟨ho.1, ?_⟩
  rcases ho.2 with h2 | ⟨g, cap, cur, hv, hg, r⟩
  · exact Or.inl h2
  · exact Or.inr ⟨g, cap, cur, hv, Nat.le_trans hk.size hg, r⟩

/-- What 'Flag' gives. -/
def flagS (xs : List Nat) (err : Int) : Bool × List Nat × Int :=
  if err ≠ 0 then (false, xs, err) else match xs with
    | [] => (false, [], 6)
    | b :: t => if 1 < b then (false, b :: t, 6) else (decide (b = 1), t, 0)

set_option maxRecDepth 100000 in
set_option maxHeartbeats 800000 in
theorem rflag_any (w : World) (rb : Nat) (v : Value) (xs : List Nat) (err : Int) (h : Rd w rb v xs err) :
    Calls Tryd.prog 67 #[.pointer (some ⟨rb, 0, none⟩)] w fun e w' => e = .returned (.bool (flagS xs err).1) ∧
      ∃ v', Rd w' rb v' (flagS xs err).2.1 (flagS xs err).2.2 ∧ v'.ownBlock = v.ownBlock ∧ Kept (fun k => k = rb) w w' := by
  have HH := Lib.hid h
  by_cases he : err = 0
  · subst he
    have c0 := h.cell0; have c1 := h.cell1; have f1 := h.free1; have hblt := h.lt
    cases xs with
    | nil =>
      rw [show flagS [] 0 = (false, [], 6) from rfl]
      obtain ⟨a, c, hv⟩ : ∃ a c, v = .slice a 0 c := by
        rcases h.reads with ⟨rfl, _⟩ | ⟨g, off, cap, rfl, _⟩
        · exact ⟨_, _, rfl⟩
        · exact ⟨_, _, rfl⟩
      have HV := Lib.hid hv
      rw [hv] at c0
      clear hv h
      go_enter Tryd.func67, Tryd.ntmps67
      go_wp2_with fail
      refine (ready_yes w rb HH.out.cell1).mono ?_
      rintro e w' ⟨rfl, rfl⟩
      go_wp2_with fail
      go_ret
      exact ⟨rfl, v, HH.out.setErr 6, rfl, Kept.setCell _ _ _ _ rfl⟩
    | cons b t =>
      rcases h.reads with ⟨_, hx⟩ | ⟨g, off, cap, hv, h1, h2, h3, h4⟩
      · cases hx
      · have cb := h4 0 (by simp)
        rw [Nat.add_zero, show (b :: t).getD 0 0 = b from rfl] at cb
        have hv2 : v = .slice (some ⟨g, off, none⟩) (t.length + 1) cap := hv
        rw [hv2] at c0
        obtain ⟨n, hn⟩ : ∃ n, n = t.length := ⟨_, rfl⟩
        rw [← hn] at c0
        have hnb : ((n : Int) + 1 == 0) = false := by simp; omega
        have HV := Lib.hid hv; have HN := Lib.hid hn
        clear hv hv2 hn h h1 h2 h4
        by_cases hb : 1 < b
        · rw [show flagS (b :: t) 0 = (false, b :: t, 6) by simp [flagS, hb]]
          have hbi : (1 : Int) < (b : Int) := by omega
          clear hb
          go_enter Tryd.func67, Tryd.ntmps67
          go_wp2_with fail
          refine (ready_yes w rb HH.out.cell1).mono ?_
          rintro e w' ⟨rfl, rfl⟩
          go_wp2_with fail
          go_ret
          exact ⟨rfl, v, HH.out.setErr 6, rfl, Kept.setCell _ _ _ _ rfl⟩
        · rw [show flagS (b :: t) 0 = (decide (b = 1), t, 0) by simp [flagS, hb]]
          have hbi : (b : Int) ≤ 1 := by omega
          have hd : ((b : Int) == 1) = decide (b = 1) := by rw [Bool.eq_iff_iff]; simp; omega
          generalize decide (b = 1) = q at hd
          clear hb
          have HC := Lib.hid cb
          have ht := take_any w rb v (b :: t) 0 1 HH.out (by simp)
          have HT := Lib.hid ht; clear ht
          go_enter Tryd.func67, Tryd.ntmps67
          go_wp2_with fail
          refine (ready_yes w rb HH.out.cell1).mono ?_
          rintro e w' ⟨rfl, rfl⟩
          go_wp2_with fail
          refine HT.out.mono ?_
          rintro e w1 ⟨p, v', rfl, hr, hp, hv, hpv, hk⟩
          obtain ⟨g2, off2, cap2, hpf, k1, k2, k3, k4⟩ : ∃ g off cap, p = .slice (some ⟨g, off, none⟩) 1 cap ∧ 1 ≤ cap ∧ cap ≤ maxLen ∧ g < w1.heap.size ∧ w1.cell? ⟨g, off, none⟩ = some (.int .u8 b) := by
            rcases hp with ⟨_, h⟩ | ⟨g, off, cap, h1, h2, h3, h4, h5⟩
            · simp at h
            · refine ⟨g, off, cap, by simpa using h1, by simpa using h2, h3, h4, ?_⟩
              have := h5 0 (by simp)
              simpa using this
          have HVV := Lib.hid hv; clear hv hpv hp k2
          subst hpf
          go_wp2_with fail
          go_ret
          exact ⟨rfl, v', hr, HVV.out, hk⟩
  · rw [show flagS xs err = (false, xs, err) from if_pos he]
    clear h
    go_enter Tryd.func67, Tryd.ntmps67
    go_wp2_with fail
    refine (ready_no w rb err he HH.out.cell1).mono ?_
    rintro e w' ⟨rfl, rfl⟩
    go_wp2_with fail
    go_ret
    exact ⟨rfl, v, HH.out, rfl, Kept.refl _ _⟩

end Go.Proofs.YtnmcihfegbdipaaDoor
