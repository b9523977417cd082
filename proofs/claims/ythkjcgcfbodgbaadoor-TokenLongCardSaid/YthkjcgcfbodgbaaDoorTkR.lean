/-
  Tokens: readers: Fail, Next, Is, the program's and the reference's.
-/
import Derived.Test.YthkjcgcfbodgbaaDoorTkQ
namespace Go.Proofs.YthkjcgcfbodgbaaDoor
open Go.RowKit Go.Shelf
set_option linter.unusedSimpArgs false
set_option linter.unusedVariables false

theorem peekS_some {l : List Tok} {r : RS} (h : (peekS l r).k ≠ 0) : r.er = 0 ∧ r.nx < l.length ∧ peekS l r = l.getD r.nx tok0 := by
  by_cases h1 : r.er = 0
  · by_cases h2 : r.nx < l.length
    · exact ⟨h1, h2, peekS_at h1 h2⟩
    · rw [peekS_end h2] at h; exact absurd rfl h
  · rw [peekS_err h1] at h; exact absurd rfl h
theorem nextS_no {l : List Tok} {r : RS} (h : (peekS l r).k = 0) : nextS l r = r := if_pos h
theorem nextS_yes {l : List Tok} {r : RS} (h : (peekS l r).k ≠ 0) : nextS l r = ⟨r.nx + 1, r.er, r.of⟩ := if_neg h
theorem failS_no {l : List Tok} {r : RS} {e : Nat} (h : r.er ≠ 0 ∨ e = 0) : failS l r e = r := if_neg fun ⟨h1, h2⟩ => h.elim (fun h => h h1) (fun h => h2 h)
theorem failS_yes {l : List Tok} {r : RS} {e : Nat} (h : r.er = 0) (h2 : e ≠ 0) : failS l r e = ⟨r.nx, e, hereS l r⟩ := if_pos ⟨h, h2⟩
def isS (l : List Tok) (r : RS) (t : ByteArray) : Bool := (decide ((peekS l r).k = 1) || decide ((peekS l r).k = 3)) && decide ((peekS l r).t = t)
theorem hereS_none {l : List Tok} {r : RS} (h : l.length = 0) : hereS l r = 0 := if_pos h
theorem hereS_some {l : List Tok} {r : RS} (h : l.length ≠ 0) : hereS l r = (l.getD (min r.nx (l.length - 1)) tok0).i := if_neg h

theorem RdP.setErr {w : World} {g : Nat} {lv : Value} {l : List Tok} {r : RS} (h : RdP w g lv l r) (e : Nat) (o : Int) :
    RdP ((w.setCell ⟨g, 2, none⟩ (.int .i64 (e : Int))).setCell ⟨g, 3, none⟩ (.int .i64 o)) g lv l ⟨r.nx, e, o⟩ ∧ Kept (fun k => k = g) w ((w.setCell ⟨g, 2, none⟩ (.int .i64 (e : Int))).setCell ⟨g, 3, none⟩ (.int .i64 o)) := by
  have hk : Kept (fun k => k = g) w ((w.setCell ⟨g, 2, none⟩ (.int .i64 (e : Int))).setCell ⟨g, 3, none⟩ (.int .i64 o)) := (Kept.setCell (fun k => k = g) w ⟨g, 2, none⟩ _ rfl).trans (Kept.setCell (fun k => k = g) _ ⟨g, 3, none⟩ _ rfl) (fun _ _ h => h) (fun _ _ h => h)
  have hrow := h.row.kept hk h.far
  obtain ⟨c0, c1, c2, c3, f1, f2, f3, lt, row, far, le, len⟩ := h
  exact ⟨⟨by go_simp, by go_simp, by go_simp, by go_simp, by go_simp, by go_simp, by go_simp, by simp; omega, hrow, far, le, len⟩, hk⟩
theorem RdP.setNx {w : World} {g : Nat} {lv : Value} {l : List Tok} {r : RS} (h : RdP w g lv l r) (hn : r.nx < l.length) :
    RdP (w.setCell ⟨g, 1, none⟩ (.int .i64 ((r.nx + 1 : Nat) : Int))) g lv l ⟨r.nx + 1, r.er, r.of⟩ ∧ Kept (fun k => k = g) w (w.setCell ⟨g, 1, none⟩ (.int .i64 ((r.nx + 1 : Nat) : Int))) := by
  have hk : Kept (fun k => k = g) w (w.setCell ⟨g, 1, none⟩ (.int .i64 ((r.nx + 1 : Nat) : Int))) := Kept.setCell (fun k => k = g) w ⟨g, 1, none⟩ _ rfl
  have hrow := h.row.kept hk h.far
  obtain ⟨c0, c1, c2, c3, f1, f2, f3, lt, row, far, le, len⟩ := h
  exact ⟨⟨by go_simp, by go_simp, by go_simp, by go_simp, by go_simp, by go_simp, by go_simp, by simp; omega, hrow, far, by simp only; omega, len⟩, hk⟩

set_option maxRecDepth 100000 in
set_option maxHeartbeats 3200000 in
theorem RdP.here {w : World} {g : Nat} {lv : Value} {l : List Tok} {r : RS} (h : RdP w g lv l r) :
    Calls Tryd.prog 63 #[.pointer (some ⟨g, 0, none⟩)] w fun e w' => e = .returned (.int .i64 (hereS l r)) ∧ Kept (fun _ => False) w w' := by
  have HH := Lib.hid h
  obtain ⟨c0, c1, c2, c3, f1, f2, f3, lt, row, far, le, len⟩ := h
  obtain ⟨la, lc, rfl, z1, z2⟩ := row.form
  obtain ⟨nx, er, of⟩ := r
  simp only at c1 c2 c3 le
  by_cases h0 : l.length = 0
  · rw [hereS_none h0]
    rw [h0] at c0
    have e0 : ((0 : Int) == 0) = true := rfl
    clear row z1 z2 far
    go_enter Tryd.func63, Tryd.ntmps63
    go_wp2_with fail
    go_ret
    exact ⟨rfl, Kept.refl _ _⟩
  · rw [hereS_some h0]
    obtain ⟨j, hj⟩ : ∃ j, j = min nx (l.length - 1) := ⟨_, rfl⟩
    have hjl : j < l.length := by omega
    obtain ⟨gg, off, rfl, hgl, t0, t1, t2, t3⟩ := row.at hjl
    simp only
    rw [← hj]
    generalize (l.getD j tok0).i = V at t3 ⊢
    obtain ⟨N, hN⟩ : ∃ N, N = l.length := ⟨_, rfl⟩
    rw [← hN] at c0 hj hjl h0 le len
    have n0 : ((N : Int) == 0) = false := beq_eq_false_iff_ne.2 (by omega)
    have n1 : IntKind.i64.wrap ((N : Int) - 1) = ((N - 1 : Nat) : Int) := by rw [IntWalk.i64_in _ (by omega)]; omega
    have n2 : min (nx : Int) ((N - 1 : Nat) : Int) = (j : Int) := by omega
    have n3 : (0 : Int) ≤ (j : Int) := by omega
    have n4 : (j : Int) < (N : Int) := by omega
    have n5 : min (nx : Int) ((N : Int) - 1) = (j : Int) := by omega
    clear t0 t1 t2 row z1 z2 far hj hN HH
    go_enter Tryd.func63, Tryd.ntmps63
    go_wp2_with fail
    go_quiet (fail)
    go_wp2_with fail
    go_ret
    exact ⟨rfl, (Kept.refl _ _).drewN _⟩

set_option maxRecDepth 100000 in
set_option maxHeartbeats 3200000 in
theorem RdP.fail {w : World} {g : Nat} {lv : Value} {l : List Tok} {r : RS} (h : RdP w g lv l r) (e : Nat) :
    Calls Tryd.prog 32 #[.pointer (some ⟨g, 0, none⟩), .int .i64 (e : Int)] w fun x w' => x = .returned (.tuple #[]) ∧ RdP w' g lv l (failS l r e) ∧ Kept (fun k => k = g) w w' := by
  have HERE := Lib.hid h.here
  have HH := Lib.hid h
  obtain ⟨c0, c1, c2, c3, f1, f2, f3, lt, row, far, le, len⟩ := h
  obtain ⟨la, lc, rfl, z1, z2⟩ := row.form
  obtain ⟨nx, er, of⟩ := r
  simp only at c1 c2 c3 le
  by_cases he : er = 0
  · subst he
    by_cases h0 : e = 0
    · rw [failS_no (Or.inr h0)]
      subst h0
      clear row z1 z2 far
      go_enter Tryd.func32, Tryd.ntmps32
      go_wp2_with fail
      first | go_end0 | refine bodyPost_ret (results_none rfl _ _ _) rfl ?_
      exact ⟨rfl, HH.out, Kept.refl _ _⟩
    · rw [failS_yes rfl h0]
      have hb : ((e : Int) == 0) = false := beq_eq_false_iff_ne.2 (by omega)
      generalize hereS l ⟨nx, 0, of⟩ = V at HERE ⊢
      clear row z1 z2 far
      go_enter Tryd.func32, Tryd.ntmps32
      go_wp2_with fail
      refine HERE.out.mono ?_
      rintro x w1 ⟨rfl, k1⟩
      have h1 := HH.out.stay k1
      have hs := h1.setErr e V
      have HS : Hid (RdP ((w1.setCell ⟨g, 2, none⟩ (.int .i64 (e : Int))).setCell ⟨g, 3, none⟩ (.int .i64 V)) g (.slice la l.length lc) l ⟨nx, e, V⟩ ∧ Kept (fun k => k = g) w ((w1.setCell ⟨g, 2, none⟩ (.int .i64 (e : Int))).setCell ⟨g, 3, none⟩ (.int .i64 V))) := ⟨hs.1, k1.trans hs.2 (fun _ _ h => h.elim) (fun _ _ h => h)⟩
      clear c0 c1 c2 c3 f1 f2 f3 lt hs
      obtain ⟨c0, c1, c2, c3, f1, f2, f3, lt, row, far, le, len⟩ := h1
      clear row far k1
      go_wp2_with fail
      go_end0
      exact ⟨rfl, HS.out⟩
  · rw [failS_no (Or.inl he)]
    have hb : ((er : Int) == 0) = false := beq_eq_false_iff_ne.2 (by omega)
    clear row z1 z2 far
    go_enter Tryd.func32, Tryd.ntmps32
    go_wp2_with fail
    first | go_end0 | refine bodyPost_ret (results_none rfl _ _ _) rfl ?_
    exact ⟨rfl, HH.out, Kept.refl _ _⟩

theorem RdR.setErr {w : World} {g : Nat} {lv : Value} {l : List Tok} {r : RS} (h : RdR w g lv l r) (e : Nat) (o : Int) :
    RdR ((w.setCell ⟨g, 2, none⟩ (.int .i64 o)).setCell ⟨g, 3, none⟩ (.int .i64 (e : Int))) g lv l ⟨r.nx, e, o⟩ ∧ Kept (fun k => k = g) w ((w.setCell ⟨g, 2, none⟩ (.int .i64 o)).setCell ⟨g, 3, none⟩ (.int .i64 (e : Int))) := by
  have hk : Kept (fun k => k = g) w ((w.setCell ⟨g, 2, none⟩ (.int .i64 o)).setCell ⟨g, 3, none⟩ (.int .i64 (e : Int))) := (Kept.setCell (fun k => k = g) w ⟨g, 2, none⟩ _ rfl).trans (Kept.setCell (fun k => k = g) _ ⟨g, 3, none⟩ _ rfl) (fun _ _ h => h) (fun _ _ h => h)
  have hrow := h.row.kept hk h.far
  obtain ⟨c0, c1, c2, c3, f1, f2, f3, lt, row, far, le, len⟩ := h
  exact ⟨⟨by go_simp, by go_simp, by go_simp, by go_simp, by go_simp, by go_simp, by go_simp, by simp; omega, hrow, far, le, len⟩, hk⟩
theorem RdR.setNx {w : World} {g : Nat} {lv : Value} {l : List Tok} {r : RS} (h : RdR w g lv l r) (hn : r.nx < l.length) :
    RdR (w.setCell ⟨g, 1, none⟩ (.int .i64 ((r.nx + 1 : Nat) : Int))) g lv l ⟨r.nx + 1, r.er, r.of⟩ ∧ Kept (fun k => k = g) w (w.setCell ⟨g, 1, none⟩ (.int .i64 ((r.nx + 1 : Nat) : Int))) := by
  have hk : Kept (fun k => k = g) w (w.setCell ⟨g, 1, none⟩ (.int .i64 ((r.nx + 1 : Nat) : Int))) := Kept.setCell (fun k => k = g) w ⟨g, 1, none⟩ _ rfl
  have hrow := h.row.kept hk h.far
  obtain ⟨c0, c1, c2, c3, f1, f2, f3, lt, row, far, le, len⟩ := h
  exact ⟨⟨by go_simp, by go_simp, by go_simp, by go_simp, by go_simp, by go_simp, by go_simp, by simp; omega, hrow, far, by simp only; omega, len⟩, hk⟩

set_option maxRecDepth 100000 in
set_option maxHeartbeats 3200000 in
theorem RdR.here {w : World} {g : Nat} {lv : Value} {l : List Tok} {r : RS} (h : RdR w g lv l r) :
    Calls Tryd.prog 97 #[.pointer (some ⟨g, 0, none⟩)] w fun e w' => e = .returned (.int .i64 (hereS l r)) ∧ Kept (fun _ => False) w w' := by
  have HH := Lib.hid h
  obtain ⟨c0, c1, c2, c3, f1, f2, f3, lt, row, far, le, len⟩ := h
  obtain ⟨la, lc, rfl, z1, z2⟩ := row.form
  obtain ⟨nx, er, of⟩ := r
  simp only at c1 c2 c3 le
  by_cases h0 : l.length = 0
  · rw [hereS_none h0]
    rw [h0] at c0 le
    obtain rfl : nx = 0 := by omega
    clear row z1 z2 far
    go_enter Tryd.func97, Tryd.ntmps97
    go_wp2_with fail
    go_quiet (fail)
    replace c0 : (w.drewN nq).cell? _ = _ := c0
    replace c1 : (w.drewN nq).cell? _ = _ := c1
    have KK := Lib.hid ((Kept.refl (fun _ => False) w).drewN nq)
    clear c2 c3 f1 f2 f3 lt HH
    generalize w.drewN nq = wd at *
    go_wp2_with fail
    go_ret
    exact ⟨rfl, KK.out⟩
  · rw [hereS_some h0]
    obtain ⟨j, hj⟩ : ∃ j, j = min nx (l.length - 1) := ⟨_, rfl⟩
    have hjl : j < l.length := by omega
    obtain ⟨gg, off, rfl, hgl, t0, t1, t2, t3⟩ := row.at hjl
    simp only
    rw [← hj]
    generalize (l.getD j tok0).i = V at t3 ⊢
    obtain ⟨N, hN⟩ : ∃ N, N = l.length := ⟨_, rfl⟩
    rw [← hN] at c0 hj hjl h0 le len
    have KK := Lib.hid (fun n => (Kept.refl (fun _ => False) w).drewN n)
    by_cases hn : nx < N
    · obtain rfl : j = nx := by omega
      have n3 : (0 : Int) ≤ (j : Int) := by omega
      have n4 : (j : Int) < (N : Int) := by omega
      clear t0 t1 t2 row z1 z2 far hj hN HH c2 c3 f1 f2 f3 lt
      go_enter Tryd.func97, Tryd.ntmps97
      go_wp2_with fail
      go_quiet (fail)
      have K1 := Lib.hid (KK.out nq)
      replace c0 : (w.drewN nq).cell? _ = _ := c0
      replace c1 : (w.drewN nq).cell? _ = _ := c1
      replace t3 : (w.drewN nq).cell? _ = _ := t3
      clear KK
      generalize w.drewN nq = wd at *
      go_wp2_with fail
      go_quiet (fail)
      have K2 := Lib.hid (K1.out.drewN nq)
      generalize wd.drewN nq = we at *
      go_wp2_with fail
      go_ret
      exact ⟨rfl, K2.out⟩
    · obtain rfl : nx = N := by omega
      obtain rfl : j = nx - 1 := by omega
      have n1 : IntKind.i64.wrap ((nx : Int) - 1) = ((nx - 1 : Nat) : Int) := by rw [IntWalk.i64_in _ (by omega)]; omega
      have n2 : (nx : Int) - 1 = ((nx - 1 : Nat) : Int) := by omega
      have n3 : (0 : Int) ≤ ((nx - 1 : Nat) : Int) := by omega
      have n4 : ((nx - 1 : Nat) : Int) < (nx : Int) := by omega
      have n5 : (0 : Int) < (nx : Int) := by omega
      clear t0 t1 t2 row z1 z2 far hj hN HH c2 c3 f1 f2 f3 lt
      go_enter Tryd.func97, Tryd.ntmps97
      go_wp2_with fail
      go_quiet (fail)
      have K1 := Lib.hid (KK.out nq)
      replace c0 : (w.drewN nq).cell? _ = _ := c0
      replace c1 : (w.drewN nq).cell? _ = _ := c1
      replace t3 : (w.drewN nq).cell? _ = _ := t3
      clear KK
      generalize w.drewN nq = wd at *
      go_wp2_with fail
      go_quiet (fail)
      have K2 := Lib.hid (K1.out.drewN nq)
      generalize wd.drewN nq = we at *
      go_wp2_with fail
      go_ret
      exact ⟨rfl, K2.out⟩

set_option maxRecDepth 100000 in
set_option maxHeartbeats 3200000 in
theorem RdR.fail {w : World} {g : Nat} {lv : Value} {l : List Tok} {r : RS} (h : RdR w g lv l r) (e : Nat) :
    Calls Tryd.prog 70 #[.pointer (some ⟨g, 0, none⟩), .int .i64 (e : Int)] w fun x w' => x = .returned (.tuple #[]) ∧ RdR w' g lv l (failS l r e) ∧ Kept (fun k => k = g) w w' := by
  have HERE := Lib.hid h.here
  have HH := Lib.hid h
  obtain ⟨c0, c1, c2, c3, f1, f2, f3, lt, row, far, le, len⟩ := h
  obtain ⟨la, lc, rfl, z1, z2⟩ := row.form
  obtain ⟨nx, er, of⟩ := r
  simp only at c1 c2 c3 le
  by_cases he : er = 0
  · subst he
    by_cases h0 : e = 0
    · rw [failS_no (Or.inr h0)]
      subst h0
      clear row z1 z2 far
      go_enter Tryd.func70, Tryd.ntmps70
      go_wp2_with fail
      first | go_end0 | refine bodyPost_ret (results_none rfl _ _ _) rfl ?_
      exact ⟨rfl, HH.out, Kept.refl _ _⟩
    · rw [failS_yes rfl h0]
      have hb : ((e : Int) == 0) = false := beq_eq_false_iff_ne.2 (by omega)
      generalize hereS l ⟨nx, 0, of⟩ = V at HERE ⊢
      clear row z1 z2 far
      go_enter Tryd.func70, Tryd.ntmps70
      go_wp2_with fail
      refine HERE.out.mono ?_
      rintro x w1 ⟨rfl, k1⟩
      have h1 := HH.out.stay k1
      have hs := h1.setErr e V
      have HS : Hid (RdR ((w1.setCell ⟨g, 2, none⟩ (.int .i64 V)).setCell ⟨g, 3, none⟩ (.int .i64 (e : Int))) g (.slice la l.length lc) l ⟨nx, e, V⟩ ∧ Kept (fun k => k = g) w ((w1.setCell ⟨g, 2, none⟩ (.int .i64 V)).setCell ⟨g, 3, none⟩ (.int .i64 (e : Int)))) := ⟨hs.1, k1.trans hs.2 (fun _ _ h => h.elim) (fun _ _ h => h)⟩
      clear c0 c1 c2 c3 f1 f2 f3 lt hs
      obtain ⟨c0, c1, c2, c3, f1, f2, f3, lt, row, far, le, len⟩ := h1
      clear row far k1
      go_wp2_with fail
      go_end0
      exact ⟨rfl, HS.out⟩
  · rw [failS_no (Or.inl he)]
    have hb : ((er : Int) == 0) = false := beq_eq_false_iff_ne.2 (by omega)
    clear row z1 z2 far
    go_enter Tryd.func70, Tryd.ntmps70
    go_wp2_with fail
    first | go_end0 | refine bodyPost_ret (results_none rfl _ _ _) rfl ?_
    exact ⟨rfl, HH.out, Kept.refl _ _⟩
end Go.Proofs.YthkjcgcfbodgbaaDoor
