/-
  Tokens: readers in memory, the program's and the reference's; Peek, and where they stand.
-/
import Derived.Test.YthkjcgcfbodgbaaDoorTkL
import Derived.Deep.QuietTactic
import Derived.BigQuiet
import Derived.StillTailTactics
namespace Go.Proofs.YthkjcgcfbodgbaaDoor
open Go.RowKit Go.Shelf
set_option linter.unusedSimpArgs false
set_option linter.unusedVariables false

/-- Where a reader stands: the number of its token, the error, the error's offset. -/
structure RS where
  nx : Nat
  er : Nat
  of : Int
def peekS (l : List Tok) (r : RS) : Tok := if r.er = 0 ∧ r.nx < l.length then l.getD r.nx tok0 else tok0
def nextS (l : List Tok) (r : RS) : RS := if (peekS l r).k = 0 then r else ⟨r.nx + 1, r.er, r.of⟩
def hereS (l : List Tok) (r : RS) : Int := if l.length = 0 then 0 else (l.getD (min r.nx (l.length - 1)) tok0).i
def failS (l : List Tok) (r : RS) (e : Nat) : RS := if r.er = 0 ∧ e ≠ 0 then ⟨r.nx, e, hereS l r⟩ else r
theorem peekS_err {l : List Tok} {r : RS} (h : r.er ≠ 0) : peekS l r = tok0 := if_neg fun h2 => h h2.1
theorem peekS_end {l : List Tok} {r : RS} (h : ¬ r.nx < l.length) : peekS l r = tok0 := if_neg fun h2 => h h2.2
theorem peekS_at {l : List Tok} {r : RS} (h : r.er = 0) (h2 : r.nx < l.length) : peekS l r = l.getD r.nx tok0 := if_pos ⟨h, h2⟩
theorem nextS_le {l : List Tok} {r : RS} (h : r.nx ≤ l.length) : (nextS l r).nx ≤ l.length := by
  unfold nextS
  split
  · exact h
  · rename_i hk
    show r.nx + 1 ≤ l.length
    by_cases h2 : r.nx < l.length
    · omega
    · rw [peekS_end h2] at hk
      exact absurd rfl hk
theorem failS_nx (l : List Tok) (r : RS) (e : Nat) : (failS l r e).nx = r.nx := by unfold failS; split <;> rfl

/-- A reader in memory. -/
structure RdP (w : World) (g : Nat) (lv : Value) (l : List Tok) (r : RS) : Prop where
  c0 : w.cell? ⟨g, 0, none⟩ = some lv
  c1 : w.cell? ⟨g, 1, none⟩ = some (.int .i64 (r.nx : Int))
  c2 : w.cell? ⟨g, 2, none⟩ = some (.int .i64 (r.er : Int))
  c3 : w.cell? ⟨g, 3, none⟩ = some (.int .i64 r.of)
  f1 : w.frozen? ⟨g, 1, none⟩ = false
  f2 : w.frozen? ⟨g, 2, none⟩ = false
  f3 : w.frozen? ⟨g, 3, none⟩ = false
  lt : g < w.heap.size
  row : Toks .u8 w lv l
  far : ∀ k, lv.ownBlock = some k → k ≠ g
  le : r.nx ≤ l.length
  len : l.length ≤ 1000000
theorem RdP.kept {S : Nat → Prop} {a b : World} {g : Nat} {lv : Value} {l : List Tok} {r : RS} (h : RdP a g lv l r) (hk : Kept S a b) (hg : ¬ S g) (hl : ∀ k, lv.ownBlock = some k → ¬ S k) : RdP b g lv l r :=
  ⟨(hk.cell (p := ⟨g, 0, none⟩) h.lt hg).trans h.c0, (hk.cell (p := ⟨g, 1, none⟩) h.lt hg).trans h.c1, (hk.cell (p := ⟨g, 2, none⟩) h.lt hg).trans h.c2, (hk.cell (p := ⟨g, 3, none⟩) h.lt hg).trans h.c3,
    (hk.frozen (p := ⟨g, 1, none⟩) h.lt hg).trans h.f1, (hk.frozen (p := ⟨g, 2, none⟩) h.lt hg).trans h.f2, (hk.frozen (p := ⟨g, 3, none⟩) h.lt hg).trans h.f3, Nat.lt_of_lt_of_le h.lt hk.size, h.row.kept hk hl, h.far, h.le, h.len⟩
theorem RdP.stay {a b : World} {g : Nat} {lv : Value} {l : List Tok} {r : RS} (h : RdP a g lv l r) (hk : Kept (fun _ => False) a b) : RdP b g lv l r := h.kept hk (fun h => h) (fun _ _ h => h)

set_option maxRecDepth 100000 in
set_option maxHeartbeats 3200000 in
theorem RdP.peek {w : World} {g : Nat} {lv : Value} {l : List Tok} {r : RS} (h : RdP w g lv l r) :
    Calls Tryd.prog 33 #[.pointer (some ⟨g, 0, none⟩)] w fun e w' => e = .returned (tkV .u8 (peekS l r)) ∧ Kept (fun _ => False) w w' := by
  have hk0 := Kept.alloc (fun _ => False) w (.cells #[.int .u8 0, .string ⟨#[]⟩, .int .i64 0, .int .i64 0] 31)
  have h1 := h.stay hk0
  have HK0 := Lib.hid hk0
  have hlt := h.lt
  have hne : ¬ g = w.heap.size := by omega
  obtain ⟨c0, c1, c2, c3, f1, f2, f3, lt, row, far, le, len⟩ := h
  have q0 : (w.alloc (.cells #[.int .u8 0, .string ⟨#[]⟩, .int .i64 0, .int .i64 0] 31)).cell? ⟨w.heap.size, 0, none⟩ = some (.int .u8 0) := by go_simp
  have q1 : (w.alloc (.cells #[.int .u8 0, .string ⟨#[]⟩, .int .i64 0, .int .i64 0] 31)).cell? ⟨w.heap.size, 1, none⟩ = some (.string ⟨#[]⟩) := by go_simp
  have q2 : (w.alloc (.cells #[.int .u8 0, .string ⟨#[]⟩, .int .i64 0, .int .i64 0] 31)).cell? ⟨w.heap.size, 2, none⟩ = some (.int .i64 0) := by go_simp
  have q3 : (w.alloc (.cells #[.int .u8 0, .string ⟨#[]⟩, .int .i64 0, .int .i64 0] 31)).cell? ⟨w.heap.size, 3, none⟩ = some (.int .i64 0) := by go_simp
  have g0 : (w.alloc (.cells #[.int .u8 0, .string ⟨#[]⟩, .int .i64 0, .int .i64 0] 31)).frozen? ⟨w.heap.size, 0, none⟩ = false := by go_simp
  have g1 : (w.alloc (.cells #[.int .u8 0, .string ⟨#[]⟩, .int .i64 0, .int .i64 0] 31)).frozen? ⟨w.heap.size, 1, none⟩ = false := by go_simp
  have g2 : (w.alloc (.cells #[.int .u8 0, .string ⟨#[]⟩, .int .i64 0, .int .i64 0] 31)).frozen? ⟨w.heap.size, 2, none⟩ = false := by go_simp
  have g3 : (w.alloc (.cells #[.int .u8 0, .string ⟨#[]⟩, .int .i64 0, .int .i64 0] 31)).frozen? ⟨w.heap.size, 3, none⟩ = false := by go_simp
  have hbl : w.heap.size < (w.alloc (.cells #[.int .u8 0, .string ⟨#[]⟩, .int .i64 0, .int .i64 0] 31)).heap.size := by simp
  have HKX : Hid (∀ W, Kept (fun _ => False) w W → ∀ a b c d, Kept (fun _ => False) w ((((W.setCell ⟨w.heap.size, 0, none⟩ a).setCell ⟨w.heap.size, 1, none⟩ b).setCell ⟨w.heap.size, 2, none⟩ c).setCell ⟨w.heap.size, 3, none⟩ d)) := fun W hW a b c d =>
    hW.trans (keptBox W w.heap.size a b c d) (T := fun _ => False) (fun _ _ h => h) (fun i hi e => by have e : i = w.heap.size := e; omega)
  clear c0 c1 c2 c3 f1 f2 f3 row hk0 lt
  obtain ⟨c0, c1, c2, c3, f1, f2, f3, lt, row, far, le, len⟩ := h1
  obtain ⟨la, lc, rfl, z1, z2⟩ := row.form
  have ROW := Lib.hid row
  obtain ⟨nx, er, of⟩ := r
  simp only at c1 c2 c3 le
  have hlm : l.length ≤ 1000000 := len
  obtain ⟨N, hN⟩ : ∃ N, N = l.length := ⟨_, rfl⟩
  by_cases he : er = 0
  · subst he
    by_cases hn : nx < l.length
    · rw [peekS_at (r := ⟨nx, 0, of⟩) rfl hn]
      obtain ⟨gg, off, rfl, hgl, t0, t1, t2, t3⟩ := row.at hn
      simp only
      obtain ⟨x, hx⟩ : ∃ x, x = l.getD nx tok0 := ⟨_, rfl⟩
      rw [← hx] at t0 t1 t2 t3 ⊢
      rw [← hN] at hn c0 le hlm ROW
      have n1 : ((nx : Int) == (N : Int)) = false := beq_eq_false_iff_ne.2 (by omega)
      have n2 : ¬ (N : Int) ≤ (nx : Int) := by omega
      have n3 : (nx : Int) < (N : Int) := by omega
      have n0 : (0 : Int) ≤ (nx : Int) := by omega
      obtain ⟨k, t, n, i⟩ := x
      simp only at t0 t1 t2 t3
      unfold tkV
      simp only
      clear hx hN row z1 z2 len hlm
      go_enter Tryd.func33, Tryd.ntmps33
      go_wp2_with fail
      generalize w.alloc (.cells #[.int .u8 0, .string ⟨#[]⟩, .int .i64 0, .int .i64 0] 31) = wx at *
      generalize w.heap.size = bx at *
      go_quiet (fail)
      have HK1 := Lib.hid (HK0.out.drewN nq)
      replace c0 : (wx.drewN nq).cell? _ = _ := c0
      replace c1 : (wx.drewN nq).cell? _ = _ := c1
      replace t0 : (wx.drewN nq).cell? _ = _ := t0
      replace t1 : (wx.drewN nq).cell? _ = _ := t1
      replace t2 : (wx.drewN nq).cell? _ = _ := t2
      replace t3 : (wx.drewN nq).cell? _ = _ := t3
      replace g0 : (wx.drewN nq).frozen? _ = _ := g0
      replace g1 : (wx.drewN nq).frozen? _ = _ := g1
      replace g2 : (wx.drewN nq).frozen? _ = _ := g2
      replace g3 : (wx.drewN nq).frozen? _ = _ := g3
      replace q0 : (wx.drewN nq).cell? _ = _ := q0
      replace q1 : (wx.drewN nq).cell? _ = _ := q1
      replace q2 : (wx.drewN nq).cell? _ = _ := q2
      replace q3 : (wx.drewN nq).cell? _ = _ := q3
      clear c2 c3 f1 f2 f3 lt hgl hbl ROW far HK0
      generalize wx.drewN nq = wd at *
      go_wp2_with fail
      go_still_tail 10, (by kernel_rfl)
      change wpList _ _ _ _ _ wd.drew
      replace g0 : wd.drew.frozen? _ = _ := g0
      replace g1 : wd.drew.frozen? _ = _ := g1
      replace g2 : wd.drew.frozen? _ = _ := g2
      replace g3 : wd.drew.frozen? _ = _ := g3
      replace q0 : wd.drew.cell? _ = _ := q0
      replace q1 : wd.drew.cell? _ = _ := q1
      replace q2 : wd.drew.cell? _ = _ := q2
      replace q3 : wd.drew.cell? _ = _ := q3
      have KE := Lib.hid (HKX.out _ HK1.out.drew)
      clear HKX HK1 c0 c1
      generalize wd.drew = we at *
      go_wp2_with fail
      exact bodyPost_ret (v := .agg #[.int .u8 (k : Int), .string t, .int .i64 n, .int .i64 i]) (by simp [results, Tryd.results33, go_sem, q0, q1, q2, q3, g0, g1, g2, g3]) rfl ⟨rfl, KE.out _ _ _ _⟩
    · obtain rfl : nx = l.length := by omega
      rw [peekS_end (r := ⟨l.length, 0, of⟩) hn]
      rw [← hN] at hn c0 c1 le hlm ROW
      have n1 : ((N : Int) == (N : Int)) = true := by simp
      have n2 : (N : Int) ≤ (N : Int) := by omega
      unfold tok0 tkV
      simp only
      clear hN row z1 z2 len hlm hn
      go_enter Tryd.func33, Tryd.ntmps33
      go_wp2_with fail
      generalize w.alloc (.cells #[.int .u8 0, .string ⟨#[]⟩, .int .i64 0, .int .i64 0] 31) = wx at *
      generalize w.heap.size = bx at *
      go_quiet (fail)
      have HK1 := Lib.hid (HK0.out.drewN nq)
      replace g0 : (wx.drewN nq).frozen? _ = _ := g0
      replace g1 : (wx.drewN nq).frozen? _ = _ := g1
      replace g2 : (wx.drewN nq).frozen? _ = _ := g2
      replace g3 : (wx.drewN nq).frozen? _ = _ := g3
      replace q0 : (wx.drewN nq).cell? _ = _ := q0
      replace q1 : (wx.drewN nq).cell? _ = _ := q1
      replace q2 : (wx.drewN nq).cell? _ = _ := q2
      replace q3 : (wx.drewN nq).cell? _ = _ := q3
      have KE := Lib.hid (HKX.out _ HK1.out)
      clear c0 c1 c2 c3 f1 f2 f3 lt hbl ROW far HK0 HKX HK1
      generalize wx.drewN nq = wd at *
      go_wp2_with fail
      exact bodyPost_ret (v := .agg #[.int .u8 0, .string ⟨#[]⟩, .int .i64 0, .int .i64 0]) (by simp [results, Tryd.results33, go_sem, q0, q1, q2, q3, g0, g1, g2, g3]) rfl ⟨rfl, KE.out _ _ _ _⟩
  · rw [peekS_err (r := ⟨nx, er, of⟩) he]
    have hb : ((er : Int) == 0) = false := beq_eq_false_iff_ne.2 (by omega)
    unfold tok0 tkV
    simp only
    clear hN row z1 z2 len hlm
    go_enter Tryd.func33, Tryd.ntmps33
    go_wp2_with fail
    generalize w.alloc (.cells #[.int .u8 0, .string ⟨#[]⟩, .int .i64 0, .int .i64 0] 31) = wx at *
    generalize w.heap.size = bx at *
    go_quiet (fail)
    have HK1 := Lib.hid (HK0.out.drewN nq)
    replace g0 : (wx.drewN nq).frozen? _ = _ := g0
    replace g1 : (wx.drewN nq).frozen? _ = _ := g1
    replace g2 : (wx.drewN nq).frozen? _ = _ := g2
    replace g3 : (wx.drewN nq).frozen? _ = _ := g3
    replace q0 : (wx.drewN nq).cell? _ = _ := q0
    replace q1 : (wx.drewN nq).cell? _ = _ := q1
    replace q2 : (wx.drewN nq).cell? _ = _ := q2
    replace q3 : (wx.drewN nq).cell? _ = _ := q3
    have KE := Lib.hid (HKX.out _ HK1.out)
    clear c0 c1 c2 c3 f1 f2 f3 lt hbl ROW far HK0 HKX HK1
    generalize wx.drewN nq = wd at *
    go_wp2_with fail
    exact bodyPost_ret (v := .agg #[.int .u8 0, .string ⟨#[]⟩, .int .i64 0, .int .i64 0]) (by simp [results, Tryd.results33, go_sem, q0, q1, q2, q3, g0, g1, g2, g3]) rfl ⟨rfl, KE.out _ _ _ _⟩

/-- A reader in memory. -/
structure RdR (w : World) (g : Nat) (lv : Value) (l : List Tok) (r : RS) : Prop where
  c0 : w.cell? ⟨g, 0, none⟩ = some lv
  c1 : w.cell? ⟨g, 1, none⟩ = some (.int .i64 (r.nx : Int))
  c2 : w.cell? ⟨g, 3, none⟩ = some (.int .i64 (r.er : Int))
  c3 : w.cell? ⟨g, 2, none⟩ = some (.int .i64 r.of)
  f1 : w.frozen? ⟨g, 1, none⟩ = false
  f2 : w.frozen? ⟨g, 3, none⟩ = false
  f3 : w.frozen? ⟨g, 2, none⟩ = false
  lt : g < w.heap.size
  row : Toks .i64 w lv l
  far : ∀ k, lv.ownBlock = some k → k ≠ g
  le : r.nx ≤ l.length
  len : l.length ≤ 1000000
theorem RdR.kept {S : Nat → Prop} {a b : World} {g : Nat} {lv : Value} {l : List Tok} {r : RS} (h : RdR a g lv l r) (hk : Kept S a b) (hg : ¬ S g) (hl : ∀ k, lv.ownBlock = some k → ¬ S k) : RdR b g lv l r :=
  ⟨(hk.cell (p := ⟨g, 0, none⟩) h.lt hg).trans h.c0, (hk.cell (p := ⟨g, 1, none⟩) h.lt hg).trans h.c1, (hk.cell (p := ⟨g, 3, none⟩) h.lt hg).trans h.c2, (hk.cell (p := ⟨g, 2, none⟩) h.lt hg).trans h.c3,
    (hk.frozen (p := ⟨g, 1, none⟩) h.lt hg).trans h.f1, (hk.frozen (p := ⟨g, 3, none⟩) h.lt hg).trans h.f2, (hk.frozen (p := ⟨g, 2, none⟩) h.lt hg).trans h.f3, Nat.lt_of_lt_of_le h.lt hk.size, h.row.kept hk hl, h.far, h.le, h.len⟩
theorem RdR.stay {a b : World} {g : Nat} {lv : Value} {l : List Tok} {r : RS} (h : RdR a g lv l r) (hk : Kept (fun _ => False) a b) : RdR b g lv l r := h.kept hk (fun h => h) (fun _ _ h => h)

set_option maxRecDepth 100000 in
set_option maxHeartbeats 3200000 in
theorem RdR.peek {w : World} {g : Nat} {lv : Value} {l : List Tok} {r : RS} (h : RdR w g lv l r) :
    Calls Tryd.prog 41 #[.pointer (some ⟨g, 0, none⟩)] w fun e w' => e = .returned (tkV .i64 (peekS l r)) ∧ Kept (fun _ => False) w w' := by
  have hk0 := Kept.alloc (fun _ => False) w (.cells #[.int .i64 0, .string ⟨#[]⟩, .int .i64 0, .int .i64 0] 44)
  have h1 := h.stay hk0
  have HK0 := Lib.hid hk0
  have hlt := h.lt
  have hne : ¬ g = w.heap.size := by omega
  obtain ⟨c0, c1, c2, c3, f1, f2, f3, lt, row, far, le, len⟩ := h
  have q0 : (w.alloc (.cells #[.int .i64 0, .string ⟨#[]⟩, .int .i64 0, .int .i64 0] 44)).cell? ⟨w.heap.size, 0, none⟩ = some (.int .i64 0) := by go_simp
  have q1 : (w.alloc (.cells #[.int .i64 0, .string ⟨#[]⟩, .int .i64 0, .int .i64 0] 44)).cell? ⟨w.heap.size, 1, none⟩ = some (.string ⟨#[]⟩) := by go_simp
  have q2 : (w.alloc (.cells #[.int .i64 0, .string ⟨#[]⟩, .int .i64 0, .int .i64 0] 44)).cell? ⟨w.heap.size, 2, none⟩ = some (.int .i64 0) := by go_simp
  have q3 : (w.alloc (.cells #[.int .i64 0, .string ⟨#[]⟩, .int .i64 0, .int .i64 0] 44)).cell? ⟨w.heap.size, 3, none⟩ = some (.int .i64 0) := by go_simp
  have g0 : (w.alloc (.cells #[.int .i64 0, .string ⟨#[]⟩, .int .i64 0, .int .i64 0] 44)).frozen? ⟨w.heap.size, 0, none⟩ = false := by go_simp
  have g1 : (w.alloc (.cells #[.int .i64 0, .string ⟨#[]⟩, .int .i64 0, .int .i64 0] 44)).frozen? ⟨w.heap.size, 1, none⟩ = false := by go_simp
  have g2 : (w.alloc (.cells #[.int .i64 0, .string ⟨#[]⟩, .int .i64 0, .int .i64 0] 44)).frozen? ⟨w.heap.size, 2, none⟩ = false := by go_simp
  have g3 : (w.alloc (.cells #[.int .i64 0, .string ⟨#[]⟩, .int .i64 0, .int .i64 0] 44)).frozen? ⟨w.heap.size, 3, none⟩ = false := by go_simp
  have hbl : w.heap.size < (w.alloc (.cells #[.int .i64 0, .string ⟨#[]⟩, .int .i64 0, .int .i64 0] 44)).heap.size := by simp
  have HKX : Hid (∀ W, Kept (fun _ => False) w W → ∀ a b c d, Kept (fun _ => False) w ((((W.setCell ⟨w.heap.size, 0, none⟩ a).setCell ⟨w.heap.size, 1, none⟩ b).setCell ⟨w.heap.size, 2, none⟩ c).setCell ⟨w.heap.size, 3, none⟩ d)) := fun W hW a b c d =>
    hW.trans (keptBox W w.heap.size a b c d) (T := fun _ => False) (fun _ _ h => h) (fun i hi e => by have e : i = w.heap.size := e; omega)
  clear c0 c1 c2 c3 f1 f2 f3 row hk0 lt
  obtain ⟨c0, c1, c2, c3, f1, f2, f3, lt, row, far, le, len⟩ := h1
  obtain ⟨la, lc, rfl, z1, z2⟩ := row.form
  have ROW := Lib.hid row
  obtain ⟨nx, er, of⟩ := r
  simp only at c1 c2 c3 le
  have hlm : l.length ≤ 1000000 := len
  obtain ⟨N, hN⟩ : ∃ N, N = l.length := ⟨_, rfl⟩
  by_cases he : er = 0
  · subst he
    by_cases hn : nx < l.length
    · rw [peekS_at (r := ⟨nx, 0, of⟩) rfl hn]
      obtain ⟨gg, off, rfl, hgl, t0, t1, t2, t3⟩ := row.at hn
      simp only
      obtain ⟨x, hx⟩ : ∃ x, x = l.getD nx tok0 := ⟨_, rfl⟩
      rw [← hx] at t0 t1 t2 t3 ⊢
      rw [← hN] at hn c0 le hlm ROW
      have n1 : ((nx : Int) == (N : Int)) = false := beq_eq_false_iff_ne.2 (by omega)
      have n2 : ¬ (N : Int) ≤ (nx : Int) := by omega
      have n3 : (nx : Int) < (N : Int) := by omega
      have n0 : (0 : Int) ≤ (nx : Int) := by omega
      obtain ⟨k, t, n, i⟩ := x
      simp only at t0 t1 t2 t3
      unfold tkV
      simp only
      clear hx hN row z1 z2 len hlm
      go_enter Tryd.func41, Tryd.ntmps41
      go_wp2_with fail
      generalize w.alloc (.cells #[.int .i64 0, .string ⟨#[]⟩, .int .i64 0, .int .i64 0] 44) = wx at *
      generalize w.heap.size = bx at *
      go_quiet (fail)
      have HK1 := Lib.hid (HK0.out.drewN nq)
      replace c0 : (wx.drewN nq).cell? _ = _ := c0
      replace c1 : (wx.drewN nq).cell? _ = _ := c1
      replace t0 : (wx.drewN nq).cell? _ = _ := t0
      replace t1 : (wx.drewN nq).cell? _ = _ := t1
      replace t2 : (wx.drewN nq).cell? _ = _ := t2
      replace t3 : (wx.drewN nq).cell? _ = _ := t3
      replace g0 : (wx.drewN nq).frozen? _ = _ := g0
      replace g1 : (wx.drewN nq).frozen? _ = _ := g1
      replace g2 : (wx.drewN nq).frozen? _ = _ := g2
      replace g3 : (wx.drewN nq).frozen? _ = _ := g3
      replace q0 : (wx.drewN nq).cell? _ = _ := q0
      replace q1 : (wx.drewN nq).cell? _ = _ := q1
      replace q2 : (wx.drewN nq).cell? _ = _ := q2
      replace q3 : (wx.drewN nq).cell? _ = _ := q3
      clear c2 c3 f1 f2 f3 lt hgl hbl ROW far HK0
      generalize wx.drewN nq = wd at *
      go_wp2_with fail
      go_still_tail 10, (by kernel_rfl)
      change wpList _ _ _ _ _ wd.drew
      replace g0 : wd.drew.frozen? _ = _ := g0
      replace g1 : wd.drew.frozen? _ = _ := g1
      replace g2 : wd.drew.frozen? _ = _ := g2
      replace g3 : wd.drew.frozen? _ = _ := g3
      replace q0 : wd.drew.cell? _ = _ := q0
      replace q1 : wd.drew.cell? _ = _ := q1
      replace q2 : wd.drew.cell? _ = _ := q2
      replace q3 : wd.drew.cell? _ = _ := q3
      have KE := Lib.hid (HKX.out _ HK1.out.drew)
      clear HKX HK1 c0 c1
      generalize wd.drew = we at *
      go_wp2_with fail
      exact bodyPost_ret (v := .agg #[.int .i64 (k : Int), .string t, .int .i64 n, .int .i64 i]) (by simp [results, Tryd.results41, go_sem, q0, q1, q2, q3, g0, g1, g2, g3]) rfl ⟨rfl, KE.out _ _ _ _⟩
    · obtain rfl : nx = l.length := by omega
      rw [peekS_end (r := ⟨l.length, 0, of⟩) hn]
      rw [← hN] at hn c0 c1 le hlm ROW
      have n1 : ((N : Int) == (N : Int)) = true := by simp
      have n2 : (N : Int) ≤ (N : Int) := by omega
      unfold tok0 tkV
      simp only
      clear hN row z1 z2 len hlm hn
      go_enter Tryd.func41, Tryd.ntmps41
      go_wp2_with fail
      generalize w.alloc (.cells #[.int .i64 0, .string ⟨#[]⟩, .int .i64 0, .int .i64 0] 44) = wx at *
      generalize w.heap.size = bx at *
      go_quiet (fail)
      have HK1 := Lib.hid (HK0.out.drewN nq)
      replace g0 : (wx.drewN nq).frozen? _ = _ := g0
      replace g1 : (wx.drewN nq).frozen? _ = _ := g1
      replace g2 : (wx.drewN nq).frozen? _ = _ := g2
      replace g3 : (wx.drewN nq).frozen? _ = _ := g3
      replace q0 : (wx.drewN nq).cell? _ = _ := q0
      replace q1 : (wx.drewN nq).cell? _ = _ := q1
      replace q2 : (wx.drewN nq).cell? _ = _ := q2
      replace q3 : (wx.drewN nq).cell? _ = _ := q3
      have KE := Lib.hid (HKX.out _ HK1.out)
      clear c0 c1 c2 c3 f1 f2 f3 lt hbl ROW far HK0 HKX HK1
      generalize wx.drewN nq = wd at *
      go_wp2_with fail
      exact bodyPost_ret (v := .agg #[.int .i64 0, .string ⟨#[]⟩, .int .i64 0, .int .i64 0]) (by simp [results, Tryd.results41, go_sem, q0, q1, q2, q3, g0, g1, g2, g3]) rfl ⟨rfl, KE.out _ _ _ _⟩
  · rw [peekS_err (r := ⟨nx, er, of⟩) he]
    have hb : ((er : Int) == 0) = false := beq_eq_false_iff_ne.2 (by omega)
    unfold tok0 tkV
    simp only
    clear hN row z1 z2 len hlm
    go_enter Tryd.func41, Tryd.ntmps41
    go_wp2_with fail
    generalize w.alloc (.cells #[.int .i64 0, .string ⟨#[]⟩, .int .i64 0, .int .i64 0] 44) = wx at *
    generalize w.heap.size = bx at *
    go_quiet (fail)
    have HK1 := Lib.hid (HK0.out.drewN nq)
    replace g0 : (wx.drewN nq).frozen? _ = _ := g0
    replace g1 : (wx.drewN nq).frozen? _ = _ := g1
    replace g2 : (wx.drewN nq).frozen? _ = _ := g2
    replace g3 : (wx.drewN nq).frozen? _ = _ := g3
    replace q0 : (wx.drewN nq).cell? _ = _ := q0
    replace q1 : (wx.drewN nq).cell? _ = _ := q1
    replace q2 : (wx.drewN nq).cell? _ = _ := q2
    replace q3 : (wx.drewN nq).cell? _ = _ := q3
    have KE := Lib.hid (HKX.out _ HK1.out)
    clear c0 c1 c2 c3 f1 f2 f3 lt hbl ROW far HK0 HKX HK1
    generalize wx.drewN nq = wd at *
    go_wp2_with fail
    exact bodyPost_ret (v := .agg #[.int .i64 0, .string ⟨#[]⟩, .int .i64 0, .int .i64 0]) (by simp [results, Tryd.results41, go_sem, q0, q1, q2, q3, g0, g1, g2, g3]) rfl ⟨rfl, KE.out _ _ _ _⟩
end Go.Proofs.YthkjcgcfbodgbaaDoor
