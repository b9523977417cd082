/-
  Tokens: readers: NewReader, Err; Accept, Expect, Number of both sides.
-/
import Derived.Test.YtoekdcobnmkpaaaGreatDoorTkX
import Derived.Laws.AppendOwnNone
namespace Go.Proofs.YtoekdcobnmkpaaaGreatDoor
open Go.RowKit Go.Shelf
set_option linter.unusedSimpArgs false
set_option linter.unusedVariables false

theorem Toks.flat {K : IntKind} {w : World} {g off n c : Nat} {l : List Tok} (h : Toks K w (.slice (some ⟨g, off, none⟩) n c) l) : ∀ j u, (flatK K l)[j]? = some u → w.cell? ⟨g, off + j, none⟩ = some u := fun j u hu => by
  have hj : j < l.length * 4 := by
    have := (List.getElem?_eq_some_iff.1 hu).1
    rwa [flatK_length] at this
  rcases h with ⟨h, _⟩ | ⟨g', off', cap, h, _, _, _, h4⟩
  · cases h
  · cases h
    have hi : j / 4 < l.length := by omega
    obtain ⟨a0, a1, a2, a3⟩ := flatK_at K l (j / 4) hi
    obtain ⟨c0, c1, c2, c3⟩ := h4 (j / 4) hi
    have hr : j % 4 = 0 ∨ j % 4 = 1 ∨ j % 4 = 2 ∨ j % 4 = 3 := by omega
    rcases hr with e | e | e | e
    · rw [show j = j / 4 * 4 by omega] at hu ⊢
      rw [a0] at hu; injection hu with hu; subst hu; exact c0
    · rw [show j = j / 4 * 4 + 1 by omega] at hu ⊢
      rw [a1] at hu; injection hu with hu; subst hu; exact c1
    · rw [show j = j / 4 * 4 + 2 by omega] at hu ⊢
      rw [a2] at hu; injection hu with hu; subst hu; exact c2
    · rw [show j = j / 4 * 4 + 3 by omega] at hu ⊢
      rw [a3] at hu; injection hu with hu; subst hu; exact c3
theorem flatK_one (K : IntKind) (l : List Tok) : ∀ u ∈ flatK K l, u.oneCell' = true := fun u hu => by
  simp only [flatK, List.mem_flatMap, tkC, List.mem_cons, List.mem_nil_iff, or_false] at hu
  obtain ⟨x, _, rfl | rfl | rfl | rfl⟩ := hu <;> rfl

set_option maxRecDepth 100000 in
set_option maxHeartbeats 800000 in
theorem tclone_any (v : Value) (l : List Tok) (w : World) (h : Toks .u8 w v l) (hl : l.length ≤ 1000000) :
    Calls Tryz.prog 36 #[v] w fun e w' => ∃ v', e = .returned v' ∧ OwnK .u8 42 w.heap.size w' v' l ∧ Kept (fun _ => False) w w' := by
  obtain ⟨i0, hi, hz0, hz1, hz2⟩ := info_parts info_tok
  have q := fun (W : World) (a : Option Addr) (n c n' c' : Nat) => Lib.run_eql_slice_nil (P := Tryz.prog) W 34 42 a n c n' c' Tryz.underlying34
  have h0 := h
  rcases h with ⟨rfl, rfl⟩ | ⟨g, off, cap, rfl, h1, h2, h3, h4⟩
  · go_enter Tryz.func36, Tryz.ntmps36
    go_wp2_with fail
    go_ret
    exact ⟨_, rfl, OwnK.nil _ _ _ _, Kept.refl _ _⟩
  · have hown : (w.alloc (.cells #[] 42)).ownsRow w.heap.size 42 4 (.slice (some ⟨w.heap.size, 0, none⟩) 0 0) 0 [] := ⟨by simp, Or.inr ⟨w.heap.size, 0, #[], rfl, Nat.le_refl _, heap_alloc_new w _, Nat.le_refl _, Nat.zero_le _, by simp, by simp⟩⟩
    have hnews : ∀ j u, (flatK .u8 l)[j]? = some u → (w.alloc (.cells #[] 42)).cell? ((⟨g, off, none⟩ : Addr).add j) = some u := fun j u hu => by
      have hadd : (⟨g, off, none⟩ : Addr).add j = ⟨g, off + j, none⟩ := by unfold Addr.add; split <;> simp_all
      rw [hadd, World.cell?_alloc_past _ _ _ h3]
      exact h0.flat j u hu
    have hone := flatK_one .u8 l
    obtain ⟨n, hn⟩ : ∃ n, n = l.length := ⟨_, rfl⟩
    have hlen : (flatK .u8 l).length = n * 4 := by rw [flatK_length, hn]
    unfold OwnK
    rw [← hn] at hl ⊢
    have HO := Lib.hid hown; have HN := Lib.hid hnews; have H1 := Lib.hid hone; have HL := Lib.hid hlen
    clear hown hnews hone hlen h0 h1 h2 h3 h4 hn
    generalize flatK .u8 l = vs at *
    go_enter Tryz.func36, Tryz.ntmps36
    go_wp2_with (at_builtin; refine wpList_append_own_at _ rfl _ _ _ rfl w.heap.size 42 i0 _ 4 40 Tryz.underlying34 hi hz0 hz1 hz2 rfl (by omega) (.slice (some ⟨w.heap.size, 0, none⟩) 0 0) 0 [] rfl HO.out ⟨g, off, none⟩ n cap vs rfl HL.out HN.out H1.out (by unfold maxLen; omega) (by omega) (by simp) ?_)
    intro v' w1 hown1 hgrow _ hat
    have hk := (Kept.alloc (fun _ => False) w (.cells #[] 42)).trans (T := fun _ => False) (Kept.ofGrown (S := fun k => k = w.heap.size) hgrow (fun k e => by simp [Value.ownBlock] at e; exact e.symm)) (fun _ _ h => h) (fun i hi e => by omega)
    have HO1 := Lib.hid hown1; have HK := Lib.hid hk
    clear hown1 hgrow hat hk
    go_wp2
    go_ret
    exact ⟨_, rfl, by simpa using HO1.out, HK.out⟩

/-- A new box of a reader. -/
theorem rdp_new {w : World} {lv : Value} {l : List Tok} (h : Toks .u8 w lv l) (hl : l.length ≤ 1000000) : RdP (w.alloc (.cells #[lv, .int .i64 0, .int .i64 0, .int .i64 0] 74)) w.heap.size lv l ⟨0, 0, 0⟩ := by
  have hr := h.kept (Kept.alloc (fun _ => False) w (.cells #[lv, .int .i64 0, .int .i64 0, .int .i64 0] 74)) (fun _ _ h => h)
  exact ⟨by go_simp, by show _ = some (Value.int .i64 ((0 : Nat) : Int)); go_simp, by show _ = some (Value.int .i64 ((0 : Nat) : Int)); go_simp, by go_simp, by go_simp, by go_simp, by go_simp, by simp, hr, fun k hk e => by have := h.lt k hk; omega, Nat.zero_le _, hl⟩
set_option maxRecDepth 100000 in
theorem newRd_any (v : Value) (l : List Tok) (w : World) (h : Toks .u8 w v l) (hl : l.length ≤ 1000000) :
    Calls Tryz.prog 11 #[v] w fun e w' => ∃ g lv, e = .returned (.pointer (some ⟨g, 0, none⟩)) ∧ RdP w' g lv l ⟨0, 0, 0⟩ ∧ w.heap.size ≤ g ∧ (∀ k, lv.ownBlock = some k → w.heap.size ≤ k) ∧ Kept (fun _ => False) w w' := by
  obtain ⟨a, c, rfl, _, _⟩ := h.form
  have HC := Lib.hid (tclone_any _ l w h hl)
  clear h
  go_enter Tryz.func11, Tryz.ntmps11
  go_wp2_with fail
  refine HC.out.mono ?_
  rintro e w1 ⟨v1, rfl, o1, k1⟩
  have hs := k1.size
  have HE : Hid (RdP (w1.alloc (.cells #[v1, .int .i64 0, .int .i64 0, .int .i64 0] 74)) w1.heap.size v1 l ⟨0, 0, 0⟩ ∧ w.heap.size ≤ w1.heap.size ∧ (∀ k, v1.ownBlock = some k → w.heap.size ≤ k) ∧ Kept (fun _ => False) w (w1.alloc (.cells #[v1, .int .i64 0, .int .i64 0, .int .i64 0] 74))) :=
    ⟨rdp_new o1.toks hl, hs, fun k hk => (o1.lt k hk).1, k1.then (Kept.alloc _ _ _)⟩
  obtain ⟨la, lc, rfl, _, _⟩ := o1.form
  clear o1 k1
  go_wp2_with fail
  go_ret
  exact ⟨_, _, rfl, HE.out⟩

set_option maxRecDepth 100000 in
theorem RdP.errs {w : World} {g : Nat} {lv : Value} {l : List Tok} {r : RS} (h : RdP w g lv l r) :
    Calls Tryz.prog 15 #[.pointer (some ⟨g, 0, none⟩)] w fun e w' => e = .returned (.tuple #[.int .i64 r.of, .int .i64 (r.er : Int)]) ∧ Kept (fun _ => False) w w' := by
  obtain ⟨c0, c1, c2, c3, f1, f2, f3, lt, row, far, le, len⟩ := h
  clear row far
  go_enter Tryz.func15, Tryz.ntmps15
  go_wp2_with fail
  go_quiet (fail)
  go_wp2_with fail
  go_ret2
  exact ⟨rfl, (Kept.refl _ _).drewN _⟩

def acceptS (l : List Tok) (r : RS) (t : ByteArray) : RS := if isS l r t = true then nextS l r else r
def expectS (l : List Tok) (r : RS) (t : ByteArray) : RS := if isS l r t = true then nextS l r else failS l r 8
def numS15 (l : List Tok) (r : RS) (lo hi : Int) : RS × Int := if (peekS l r).k ≠ 2 then (failS l r 8, 0) else if (peekS l r).n < lo ∨ hi < (peekS l r).n then (failS l r 2, 0) else (nextS l r, (peekS l r).n)

set_option maxRecDepth 100000 in
theorem RdP.accept {w : World} {g : Nat} {lv : Value} {l : List Tok} {r : RS} (h : RdP w g lv l r) (s : ByteArray) :
    Calls Tryz.prog 14 #[.pointer (some ⟨g, 0, none⟩), .string s] w fun e w' => e = .returned (.bool (isS l r s)) ∧ RdP w' g lv l (acceptS l r s) ∧ Kept (fun k => k = g) w w' := by
  have HI := Lib.hid (h.is s)
  have HX := Lib.hid h
  unfold acceptS
  cases hv : isS l r s with
  | true =>
    rw [hv] at HI
    rw [if_pos rfl]
    clear hv h
    go_enter Tryz.func14, Tryz.ntmps14
    go_wp2_with fail
    refine HI.out.mono ?_
    rintro e w1 ⟨rfl, k1⟩
    have HN := Lib.hid (HX.out.stay k1).next
    have K1 := Lib.hid k1
    clear k1
    unfold tkV at HN
    go_wp2_with fail
    refine HN.out.mono ?_
    rintro e w2 ⟨rfl, h2, k2⟩
    have H2 := Lib.hid h2
    have K2 := Lib.hid (K1.out.trans k2 (T := fun k => k = g) (fun _ _ h => h.elim) (fun _ _ h => h))
    clear h2 k2
    go_wp2_with fail
    go_ret
    exact ⟨rfl, H2.out, K2.out⟩
  | false =>
    rw [hv] at HI
    rw [if_neg (by decide)]
    clear hv h
    go_enter Tryz.func14, Tryz.ntmps14
    go_wp2_with fail
    refine HI.out.mono ?_
    rintro e w1 ⟨rfl, k1⟩
    have H1 := Lib.hid (HX.out.stay k1)
    have K1 := Lib.hid k1
    clear k1
    go_wp2_with fail
    go_ret
    exact ⟨rfl, H1.out, K1.out.mono (fun _ _ h => h.elim)⟩

set_option maxRecDepth 100000 in
set_option maxHeartbeats 1600000 in
theorem RdP.number {w : World} {g : Nat} {lv : Value} {l : List Tok} {r : RS} (h : RdP w g lv l r) (lo hi : Int) :
    Calls Tryz.prog 13 #[.pointer (some ⟨g, 0, none⟩), .int .i64 lo, .int .i64 hi] w fun e w' => e = .returned (.int .i64 (numS15 l r lo hi).2) ∧ RdP w' g lv l (numS15 l r lo hi).1 ∧ Kept (fun k => k = g) w w' := by
  have HP := Lib.hid h.peek
  have HX := Lib.hid h
  have HFX : Hid (∀ (w2 : World) (o : Obj) (e : Nat), Kept (fun _ => False) w w2 → Calls Tryz.prog 37 #[.pointer (some ⟨g, 0, none⟩), .int .i64 (e : Int)] (w2.alloc o) fun x w' => x = .returned (.tuple #[]) ∧ RdP w' g lv l (failS l r e) ∧ Kept (fun k => k = g) w w') := fun w2 o e k2 =>
    ((HX.out.stay (k2.then (Kept.alloc _ _ o))).fail e).mono fun x w' ⟨h1, h2, h3⟩ => ⟨h1, h2, (k2.then (Kept.alloc _ _ o)).trans h3 (fun _ _ h => h.elim) (fun _ _ h => h)⟩
  have HNX : Hid (∀ (w2 : World) (o : Obj), Kept (fun _ => False) w w2 → Calls Tryz.prog 38 #[.pointer (some ⟨g, 0, none⟩)] (w2.alloc o) fun x w' => x = .returned (tkV .u8 (peekS l r)) ∧ RdP w' g lv l (nextS l r) ∧ Kept (fun k => k = g) w w') := fun w2 o k2 =>
    ((HX.out.stay (k2.then (Kept.alloc _ _ o))).next).mono fun x w' ⟨h1, h2, h3⟩ => ⟨h1, h2, (k2.then (Kept.alloc _ _ o)).trans h3 (fun _ _ h => h.elim) (fun _ _ h => h)⟩
  unfold numS15
  obtain ⟨nx, er, of⟩ := r
  have hpe : er ≠ 0 → peekS l ⟨nx, er, of⟩ = tok0 := fun e => peekS_err e
  have hfe : er ≠ 0 → failS l ⟨nx, er, of⟩ 8 = ⟨nx, er, of⟩ := fun e => failS_no (Or.inl e)
  have HST : Hid (∀ (w2 : World) (o : Obj), Kept (fun _ => False) w w2 → RdP (w2.alloc o) g lv l ⟨nx, er, of⟩ ∧ Kept (fun k => k = g) w (w2.alloc o)) := fun w2 o k2 => ⟨HX.out.stay (k2.then (Kept.alloc _ _ o)), (k2.then (Kept.alloc _ _ o)).mono (fun _ _ h => h.elim)⟩
  have hrd : Hid (∀ (w2 : World), Kept (fun _ => False) w w2 → w2.cell? ⟨g, 2, none⟩ = some (.int .i64 (er : Int)) ∧ g < w2.heap.size) := fun w2 k2 => ⟨(HX.out.stay k2).c2, (HX.out.stay k2).lt⟩
  generalize peekS l ⟨nx, er, of⟩ = p at HP HNX hpe ⊢
  generalize failS l ⟨nx, er, of⟩ = fst9 at HFX hfe ⊢
  generalize nextS l ⟨nx, er, of⟩ = NS at HNX ⊢
  obtain ⟨k, t, n, i⟩ := p
  unfold tkV at HP HNX
  simp only at HP HNX ⊢
  clear h HX
  by_cases hk : k = 2
  · subst hk
    rw [if_neg (by simp)]
    by_cases h1 : n < lo
    · rw [if_pos (Or.inl h1)]
      clear hpe hfe
      go_enter Tryz.func13, Tryz.ntmps13
      go_wp2_with fail
      refine HP.out.mono ?_
      rintro e w2 ⟨rfl, k2⟩
      have HF := Lib.hid (HFX.out w2 (.cells #[.int .u8 2, .string t, .int .i64 n, .int .i64 i] 42) 2 k2)
      clear k2 HFX HNX HST hrd
      go_wp2_with fail
      refine HF.out.mono ?_
      rintro e w3 ⟨rfl, h3, k3⟩
      have H3 := Lib.hid h3; have K3 := Lib.hid k3
      clear h3 k3
      go_wp2_with fail
      go_ret
      exact ⟨rfl, H3.out, K3.out⟩
    · by_cases h2 : hi < n
      · rw [if_pos (Or.inr h2)]
        clear hpe hfe
        go_enter Tryz.func13, Tryz.ntmps13
        go_wp2_with fail
        refine HP.out.mono ?_
        rintro e w2 ⟨rfl, k2⟩
        have HF := Lib.hid (HFX.out w2 (.cells #[.int .u8 2, .string t, .int .i64 n, .int .i64 i] 42) 2 k2)
        clear k2 HFX HNX HST hrd
        go_wp2_with fail
        refine HF.out.mono ?_
        rintro e w3 ⟨rfl, h3, k3⟩
        have H3 := Lib.hid h3; have K3 := Lib.hid k3
        clear h3 k3
        go_wp2_with fail
        go_ret
        exact ⟨rfl, H3.out, K3.out⟩
      · rw [if_neg (by omega)]
        clear hpe hfe
        go_enter Tryz.func13, Tryz.ntmps13
        go_wp2_with fail
        refine HP.out.mono ?_
        rintro e w2 ⟨rfl, k2⟩
        have hfd : ∀ W : World, (Instr.field 42 (.agg #[.int .u8 2, .string t, .int .i64 n, .int .i64 i]) 2).run Tryz.prog W = .ok (.int .i64 n) W := fun _ => by kernel_rfl
        have HF := Lib.hid (HNX.out w2 (.cells #[.int .u8 2, .string t, .int .i64 n, .int .i64 i] 42) k2)
        clear k2 HFX HNX HST hrd
        go_wp2_with fail
        refine HF.out.mono ?_
        rintro e w3 ⟨rfl, h3, k3⟩
        have H3 := Lib.hid h3; have K3 := Lib.hid k3
        clear h3 k3
        go_wp2_with fail
        go_ret
        exact ⟨rfl, H3.out, K3.out⟩
  · rw [if_pos hk]
    have hb : ((k : Int) == 2) = false := beq_eq_false_iff_ne.2 (by omega)
    clear hpe hfe
    go_enter Tryz.func13, Tryz.ntmps13
    go_wp2_with fail
    refine HP.out.mono ?_
    rintro e w2 ⟨rfl, k2⟩
    have HF := Lib.hid (HFX.out w2 (.cells #[.int .u8 (k : Int), .string t, .int .i64 n, .int .i64 i] 42) 8 k2)
    clear k2 HFX HNX HST hrd
    go_wp2_with fail
    refine HF.out.mono ?_
    rintro e w3 ⟨rfl, h3, k3⟩
    have H3 := Lib.hid h3; have K3 := Lib.hid k3
    clear h3 k3
    go_wp2_with fail
    go_ret
    exact ⟨rfl, H3.out, K3.out⟩

end Go.Proofs.YtoekdcobnmkpaaaGreatDoor
