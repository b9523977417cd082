/-
  Tokens: readers: Next, Is, the program's and the reference's.
-/
import Derived.Test.YthkjcgcfbodgbaaDoorTkR
namespace Go.Proofs.YthkjcgcfbodgbaaDoor
open Go.RowKit Go.Shelf
set_option linter.unusedSimpArgs false
set_option linter.unusedVariables false

theorem Toks.lt {K : IntKind} {w : World} {v : Value} {l : List Tok} (h : Toks K w v l) : ∀ k, v.ownBlock = some k → k < w.heap.size := fun k hk => by
  rcases h with ⟨rfl, _⟩ | ⟨g, off, cap, rfl, _, _, h3, _⟩
  · cases hk
  · cases hk; exact h3

theorem RdP.setNx2 {w : World} {g : Nat} {lv : Value} {l : List Tok} {nx er : Nat} {of : Int} (h : RdP w g lv l ⟨nx, er, of⟩) (hn : nx < l.length) :
    RdP (w.setCell ⟨g, 1, none⟩ (.int .i64 ((nx : Int) + 1))) g lv l ⟨nx + 1, er, of⟩ ∧ Kept (fun k => k = g) w (w.setCell ⟨g, 1, none⟩ (.int .i64 ((nx : Int) + 1))) := by
  have h2 := h.setNx hn
  have e : ((nx + 1 : Nat) : Int) = (nx : Int) + 1 := by omega
  simp only at h2
  rw [e] at h2
  exact h2
theorem RdP.boxed {w : World} {g : Nat} {lv : Value} {l : List Tok} {r : RS} (h : RdP w g lv l r) (b : Nat) (hb : b ≠ g) (hl : ∀ k, lv.ownBlock = some k → k ≠ b) (a0 a1 a2 a3 : Value) :
    RdP ((((w.setCell ⟨b, 0, none⟩ a0).setCell ⟨b, 1, none⟩ a1).setCell ⟨b, 2, none⟩ a2).setCell ⟨b, 3, none⟩ a3) g lv l r :=
  h.kept (keptBox w b a0 a1 a2 a3) (fun e => hb e.symm) hl

set_option maxRecDepth 100000 in
set_option maxHeartbeats 3200000 in
theorem RdP.next {w : World} {g : Nat} {lv : Value} {l : List Tok} {r : RS} (h : RdP w g lv l r) :
    Calls Tryd.prog 34 #[.pointer (some ⟨g, 0, none⟩)] w fun e w' => e = .returned (tkV .u8 (peekS l r)) ∧ RdP w' g lv l (nextS l r) ∧ Kept (fun k => k = g) w w' := by
  have hk0 := Kept.alloc (fun _ => False) w (.cells #[.int .u8 0, .string ⟨#[]⟩, .int .i64 0, .int .i64 0] 31)
  have hx := h.stay hk0
  have HP := Lib.hid hx.peek
  have HX := Lib.hid hx
  have HK0 := Lib.hid hk0
  have hlt := h.lt
  have hlv := h.row.lt
  have hle := h.le
  have hlen := h.len
  have HFAR := Lib.hid h.far
  obtain ⟨nx, er, of⟩ := r
  simp only at hle
  have HLV := Lib.hid hlv
  obtain ⟨p, hp⟩ : ∃ p, p = peekS l ⟨nx, er, of⟩ := ⟨_, rfl⟩
  have hns : p.k = 0 → nextS l ⟨nx, er, of⟩ = ⟨nx, er, of⟩ := fun e => nextS_no (by rw [← hp]; exact e)
  have hny : p.k ≠ 0 → er = 0 ∧ nx < l.length ∧ nextS l ⟨nx, er, of⟩ = ⟨nx + 1, er, of⟩ := fun e => by
    rw [hp] at e
    obtain ⟨h1, h2, _⟩ := peekS_some e
    exact ⟨h1, h2, nextS_yes e⟩
  have hnz : er ≠ 0 ∨ ¬ nx < l.length → p.k = 0 := fun e => by
    rw [hp]
    rcases e with e | e
    · rw [peekS_err e]; rfl
    · rw [peekS_end e]; rfl
  rw [← hp] at HP ⊢
  clear hp hk0 hx h hlv
  obtain ⟨k, t, n, i⟩ := p
  simp only at hns hny hnz
  unfold tkV at HP ⊢
  simp only at HP ⊢
  obtain ⟨N', hN'⟩ : ∃ N', N' = nextS l ⟨nx, er, of⟩ := ⟨_, rfl⟩
  rw [← hN'] at hns hny ⊢
  clear hN'
  have hin : ∀ (w2 : World) (k2 : Kept (fun _ => False) (w.alloc (.cells #[.int .u8 0, .string ⟨#[]⟩, .int .i64 0, .int .i64 0] 31)) w2), RdP w2 g lv l ⟨nx, er, of⟩ ∧ Kept (fun _ => False) w w2 := fun w2 k2 => ⟨HX.out.stay k2, HK0.out.then k2⟩
  have HIN := Lib.hid hin
  clear hin HK0
  by_cases hk : k = 0
  · subst hk
    clear hny hnz
    go_enter Tryd.func34, Tryd.ntmps34
    go_wp2_with fail
    refine HP.out.mono ?_
    rintro e w2 ⟨rfl, k2⟩
    obtain ⟨q0, q1, q2, q3, g0, g1, g2, g3, hbl⟩ := box4 k2
    obtain ⟨h2, kw2⟩ := HIN.out w2 k2
    have hgb : ¬ g = w.heap.size := by omega
    have hbg : ¬ w.heap.size = g := by omega
    have h3 := h2.stay (Kept.alloc (fun _ => False) w2 (.cells #[.int .u8 0, .string t, .int .i64 n, .int .i64 i] 31))
    have H3 := Lib.hid h3
    have KW3 := Lib.hid (kw2.then (Kept.alloc (fun _ => False) w2 (.cells #[.int .u8 0, .string t, .int .i64 n, .int .i64 i] 31)))
    have hg2 : g < w2.heap.size := h2.lt
    have hgb2 : ¬ g = w2.heap.size := by omega
    have hbb2 : ¬ w.heap.size = w2.heap.size := by omega
    have HB : Hid (∀ k, lv.ownBlock = some k → k ≠ w.heap.size) := fun k hk => by have := HLV.out k hk; omega
    have hN0 := hns trivial
    have H2 := Lib.hid h2; have KW2 := Lib.hid kw2
    have HE : Hid (∀ a0 a1 a2 a3, RdP ((((((w2).setCell ⟨w.heap.size, 0, none⟩ a0).setCell ⟨w.heap.size, 1, none⟩ a1).setCell ⟨w.heap.size, 2, none⟩ a2).setCell ⟨w.heap.size, 3, none⟩ a3).alloc (.cells #[.int .u8 0, .string t, .int .i64 n, .int .i64 i] 31)) g lv l N' ∧ Kept (fun k => k = g) w ((((((w2).setCell ⟨w.heap.size, 0, none⟩ a0).setCell ⟨w.heap.size, 1, none⟩ a1).setCell ⟨w.heap.size, 2, none⟩ a2).setCell ⟨w.heap.size, 3, none⟩ a3).alloc (.cells #[.int .u8 0, .string t, .int .i64 n, .int .i64 i] 31))) := fun a0 a1 a2 a3 =>
      ⟨by rw [hN0]; exact (H2.out.boxed _ hbg HB.out _ _ _ _).stay (Kept.alloc _ _ _), (KW2.out.trans (T := fun k => k = g) (keptBox _ w.heap.size a0 a1 a2 a3) (fun _ _ h => h.elim) (fun i hi e => by have e : i = w.heap.size := e; omega)).trans (Kept.alloc (fun _ => False) _ _) (fun _ _ h => h) (fun _ _ h => h.elim)⟩
    clear k2 h2 h3 kw2 H3 KW3 HIN HP
    go_wp2_with fail
    exact bodyPost_ret (v := .agg #[.int .u8 0, .string t, .int .i64 n, .int .i64 i]) (by simp [results, Tryd.results34, go_sem, q0, q1, q2, q3, g0, g1, g2, g3, hbb2, hbl, hgb, hbg]) rfl ⟨rfl, HE.out _ _ _ _⟩
  · obtain ⟨rfl, hn, hN0⟩ := hny hk
    have hb : ((k : Int) == 0) = false := beq_eq_false_iff_ne.2 (by omega)
    clear hns hnz
    go_enter Tryd.func34, Tryd.ntmps34
    go_wp2_with fail
    refine HP.out.mono ?_
    rintro e w2 ⟨rfl, k2⟩
    obtain ⟨q0, q1, q2, q3, g0, g1, g2, g3, hbl⟩ := box4 k2
    obtain ⟨h2, kw2⟩ := HIN.out w2 k2
    have hgb : ¬ g = w.heap.size := by omega
    have hbg : ¬ w.heap.size = g := by omega
    have h3 := h2.stay (Kept.alloc (fun _ => False) w2 (.cells #[.int .u8 (k : Int), .string t, .int .i64 n, .int .i64 i] 31))
    have H3 := Lib.hid h3
    have KW3 := Lib.hid (kw2.then (Kept.alloc (fun _ => False) w2 (.cells #[.int .u8 (k : Int), .string t, .int .i64 n, .int .i64 i] 31)))
    have hg2 : g < w2.heap.size := h2.lt
    have hgb2 : ¬ g = w2.heap.size := by omega
    have hbb2 : ¬ w.heap.size = w2.heap.size := by omega
    have HB : Hid (∀ k, lv.ownBlock = some k → k ≠ w.heap.size) := fun k hk => by have := HLV.out k hk; omega
    obtain ⟨h4, k4⟩ := h2.setNx2 hn
    have H4 := Lib.hid h4; have K4 := Lib.hid (kw2.trans k4 (T := fun k => k = g) (fun _ _ h => h.elim) (fun _ _ h => h))
    obtain ⟨c0, c1, c2, c3, f1, f2, f3, lt, row, far, le, len⟩ := h2
    simp only at c1
    have HE : Hid (∀ a0 a1 a2 a3, RdP ((((((w2.setCell ⟨g, 1, none⟩ (.int .i64 ((nx : Int) + 1))).setCell ⟨w.heap.size, 0, none⟩ a0).setCell ⟨w.heap.size, 1, none⟩ a1).setCell ⟨w.heap.size, 2, none⟩ a2).setCell ⟨w.heap.size, 3, none⟩ a3).alloc (.cells #[.int .u8 (k : Int), .string t, .int .i64 n, .int .i64 i] 31)) g lv l N' ∧ Kept (fun k => k = g) w ((((((w2.setCell ⟨g, 1, none⟩ (.int .i64 ((nx : Int) + 1))).setCell ⟨w.heap.size, 0, none⟩ a0).setCell ⟨w.heap.size, 1, none⟩ a1).setCell ⟨w.heap.size, 2, none⟩ a2).setCell ⟨w.heap.size, 3, none⟩ a3).alloc (.cells #[.int .u8 (k : Int), .string t, .int .i64 n, .int .i64 i] 31))) := fun a0 a1 a2 a3 =>
      ⟨by rw [hN0]; exact (H4.out.boxed _ hbg HB.out _ _ _ _).stay (Kept.alloc _ _ _), (K4.out.trans (T := fun k => k = g) (keptBox _ w.heap.size a0 a1 a2 a3) (fun _ _ h => h) (fun i hi e => by have e : i = w.heap.size := e; omega)).trans (Kept.alloc (fun _ => False) _ _) (fun _ _ h => h) (fun _ _ h => h.elim)⟩
    clear k2 h3 h4 k4 kw2 H3 KW3 HIN HP row far c0 c2 c3 f2 f3
    go_wp2_with fail
    exact bodyPost_ret (v := .agg #[.int .u8 (k : Int), .string t, .int .i64 n, .int .i64 i]) (by simp [results, Tryd.results34, go_sem, q0, q1, q2, q3, g0, g1, g2, g3, hbb2, hbl, hgb, hbg]) rfl ⟨rfl, HE.out _ _ _ _⟩

set_option maxRecDepth 100000 in
set_option maxHeartbeats 3200000 in
theorem RdP.is {w : World} {g : Nat} {lv : Value} {l : List Tok} {r : RS} (h : RdP w g lv l r) (s : ByteArray) :
    Calls Tryd.prog 35 #[.pointer (some ⟨g, 0, none⟩), .string s] w fun e w' => e = .returned (.bool (isS l r s)) ∧ Kept (fun _ => False) w w' := by
  have HP := Lib.hid h.peek
  have HX := Lib.hid h
  have hlt := h.lt
  obtain ⟨nx, er, of⟩ := r
  obtain ⟨V, hV⟩ : ∃ V, V = isS l ⟨nx, er, of⟩ s := ⟨_, rfl⟩
  rw [← hV]
  unfold isS at hV
  have hpe : er ≠ 0 → peekS l ⟨nx, er, of⟩ = tok0 := fun e => peekS_err e
  generalize peekS l ⟨nx, er, of⟩ = p at HP hV hpe
  obtain ⟨k, t, n, i⟩ := p
  unfold tkV at HP
  simp only at hV HP
  clear h
  have hx : ∀ (w2 : World), Kept (fun _ => False) w w2 → RdP w2 g lv l ⟨nx, er, of⟩ := fun w2 k2 => HX.out.stay k2
  have HXX := Lib.hid hx
  clear hx HX
  by_cases h1 : k = 1
  · subst h1
    by_cases ht : t = s
    · have hb : (t.toList == s.toList) = true := by rw [str_eq]; simp [ht]
      obtain rfl : V = true := by rw [hV]; simp [ht]
      clear hV hpe ht
      go_enter Tryd.func35, Tryd.ntmps35
      go_wp2_with fail
      refine HP.out.mono ?_
      rintro e w2 ⟨rfl, k2⟩
      have h2 := HXX.out w2 k2
      have K2 := Lib.hid k2
      obtain ⟨c0, c1, c2, c3, f1, f2, f3, lt, row, far, le, len⟩ := h2
      simp only at c2
      have hgb2 : ¬ g = w2.heap.size := by omega
      clear c0 c1 c3 f1 f2 f3 row far k2 HP HXX
      go_wp2_with fail
      go_ret
      exact ⟨rfl, K2.out.then (Kept.alloc _ _ _)⟩
    · have hb : (t.toList == s.toList) = false := by rw [str_eq]; simp [ht]
      obtain rfl : V = false := by rw [hV]; simp [ht]
      clear hV hpe ht
      go_enter Tryd.func35, Tryd.ntmps35
      go_wp2_with fail
      refine HP.out.mono ?_
      rintro e w2 ⟨rfl, k2⟩
      have h2 := HXX.out w2 k2
      have K2 := Lib.hid k2
      obtain ⟨c0, c1, c2, c3, f1, f2, f3, lt, row, far, le, len⟩ := h2
      simp only at c2
      have hgb2 : ¬ g = w2.heap.size := by omega
      clear c0 c1 c3 f1 f2 f3 row far k2 HP HXX
      go_wp2_with fail
      go_ret
      exact ⟨rfl, K2.out.then (Kept.alloc _ _ _)⟩
  · by_cases h3 : k = 3
    · subst h3
      by_cases ht : t = s
      · have hb : (t.toList == s.toList) = true := by rw [str_eq]; simp [ht]
        obtain rfl : V = true := by rw [hV]; simp [ht]
        clear hV hpe ht
        go_enter Tryd.func35, Tryd.ntmps35
        go_wp2_with fail
        refine HP.out.mono ?_
        rintro e w2 ⟨rfl, k2⟩
        have h2 := HXX.out w2 k2
        have K2 := Lib.hid k2
        obtain ⟨c0, c1, c2, c3, f1, f2, f3, lt, row, far, le, len⟩ := h2
        simp only at c2
        have hgb2 : ¬ g = w2.heap.size := by omega
        clear c0 c1 c3 f1 f2 f3 row far k2 HP HXX
        go_wp2_with fail
        go_ret
        exact ⟨rfl, K2.out.then (Kept.alloc _ _ _)⟩
      · have hb : (t.toList == s.toList) = false := by rw [str_eq]; simp [ht]
        obtain rfl : V = false := by rw [hV]; simp [ht]
        clear hV hpe ht
        go_enter Tryd.func35, Tryd.ntmps35
        go_wp2_with fail
        refine HP.out.mono ?_
        rintro e w2 ⟨rfl, k2⟩
        have h2 := HXX.out w2 k2
        have K2 := Lib.hid k2
        obtain ⟨c0, c1, c2, c3, f1, f2, f3, lt, row, far, le, len⟩ := h2
        simp only at c2
        have hgb2 : ¬ g = w2.heap.size := by omega
        clear c0 c1 c3 f1 f2 f3 row far k2 HP HXX
        go_wp2_with fail
        go_ret
        exact ⟨rfl, K2.out.then (Kept.alloc _ _ _)⟩
    · have b1 : ((k : Int) == 1) = false := beq_eq_false_iff_ne.2 (by omega)
      have b3 : ((k : Int) == 3) = false := beq_eq_false_iff_ne.2 (by omega)
      obtain rfl : V = false := by rw [hV]; simp [h1, h3]
      clear hV hpe
      go_enter Tryd.func35, Tryd.ntmps35
      go_wp2_with fail
      refine HP.out.mono ?_
      rintro e w2 ⟨rfl, k2⟩
      have h2 := HXX.out w2 k2
      have K2 := Lib.hid k2
      obtain ⟨c0, c1, c2, c3, f1, f2, f3, lt, row, far, le, len⟩ := h2
      simp only at c2
      have hgb2 : ¬ g = w2.heap.size := by omega
      clear c0 c1 c3 f1 f2 f3 row far k2 HP HXX
      go_wp2_with fail
      go_ret
      exact ⟨rfl, K2.out.then (Kept.alloc _ _ _)⟩
end Go.Proofs.YthkjcgcfbodgbaaDoor
