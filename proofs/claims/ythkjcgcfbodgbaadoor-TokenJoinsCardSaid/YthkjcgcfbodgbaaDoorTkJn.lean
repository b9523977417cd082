/-
  arbaclaw15.TokenJoins returns true.
-/
import Derived.Test.YthkjcgcfbodgbaaDoorTkPq
import Derived.Test.YthkjcgcfbodgbaaDoorTkT
import Derived.Test.YthkjcgcfbodgbaaDoorTkU
import Derived.OpenShut
import Derived.ChangeMaps5
import Derived.Lib.SmallJoins
import Derived.Deep.Slices
namespace Go.Proofs.YthkjcgcfbodgbaaDoor
open Go.Joins Go.ChangeShapes Go.WideShapes Go.ChangeAt Go.RowKit Go.Deep Go.Shelf
set_option linter.unusedSimpArgs false
set_option linter.unusedVariables false
set_option linter.constructorNameAsVariable false

/-! Tokens as they come in. -/
theorem u8_natJ (a : Int) (h : (Lit.int .u8 a).wf = true) : ∃ n : Nat, a = (n : Int) ∧ n < 256 := by
  simp [Lit.wf, IntKind.min, IntKind.max, IntKind.signed, IntKind.bits] at h
  exact ⟨a.toNat, by omega, by omega⟩
/-- A list of tokens that came in: it is empty, or reads as tokens. -/
def ToksIn (w : World) (v : Value) (l : List Tok) : Prop :=
  ((∃ a c, v = .slice a 0 c ∧ c ≤ maxLen) ∧ l = []) ∨ Toks .u8 w v l
theorem ToksIn.form {w : World} {v : Value} {l : List Tok} (h : ToksIn w v l) : ∃ a c, v = .slice a l.length c ∧ l.length ≤ c ∧ c ≤ maxLen := by
  rcases h with ⟨⟨a, c, rfl, hc⟩, rfl⟩ | h
  · exact ⟨_, _, rfl, Nat.zero_le _, hc⟩
  · exact h.form
theorem ToksIn.kept {w w' : World} {v : Value} {l : List Tok} (h : ToksIn w v l) (hk : Kept (fun _ => False) w w') : ToksIn w' v l := by
  rcases h with h | h
  · exact Or.inl h
  · exact Or.inr (h.kept hk (fun _ _ h => h))
theorem ToksIn.cut {w : World} {a : Option Addr} {n c : Nat} {l : List Tok} (h : ToksIn w (.slice a n c) l) (m : Nat) (hm : m ≤ l.length) : ToksIn w (.slice a m c) (l.take m) := by
  rcases h with ⟨⟨a', c', h, hc⟩, rfl⟩ | h
  · obtain rfl : m = 0 := by simpa using hm
    cases h
    exact Or.inl ⟨⟨_, _, rfl, hc⟩, rfl⟩
  · exact Or.inr (h.cut m hm)

set_option maxRecDepth 100000 in
set_option maxHeartbeats 800000 in
/-- slices.Clone of tokens that came in. -/
theorem tclone_in (v : Value) (l : List Tok) (w : World) (h : ToksIn w v l) (hl : l.length ≤ 1000000) :
    Calls Tryd.prog 19 #[v] w fun e w' => ∃ v', e = .returned v' ∧ OwnK .u8 31 w.heap.size w' v' l ∧ Kept (fun _ => False) w w' := by
  rcases h with ⟨⟨a, c, rfl, hc⟩, rfl⟩ | h
  · obtain ⟨i0, hi, hz0, hz1, hz2⟩ := info_parts info_tok
    have q := fun (W : World) (a : Option Addr) (n c n' c' : Nat) => Lib.run_eql_slice_nil (P := Tryd.prog) W 24 31 a n c n' c' Tryd.underlying24
    cases a with
    | none =>
      go_enter Tryd.func19, Tryd.ntmps19
      go_wp2_with fail
      go_ret
      exact ⟨_, rfl, OwnK.nil _ _ _ _, Kept.refl _ _⟩
    | some ad =>
      have hown : (w.alloc (.cells #[] 31)).ownsRow w.heap.size 31 4 (.slice (some ⟨w.heap.size, 0, none⟩) 0 0) 0 [] := ⟨by simp, Or.inr ⟨w.heap.size, 0, #[], rfl, Nat.le_refl _, heap_alloc_new w _, Nat.le_refl _, Nat.zero_le _, by simp, by simp⟩⟩
      have HO := Lib.hid hown
      clear hown
      go_enter Tryd.func19, Tryd.ntmps19
      go_wp2_with (at_builtin; refine wpList_append_own_at _ rfl _ _ _ rfl w.heap.size 31 i0 _ 4 40 Tryd.underlying24 hi hz0 hz1 hz2 rfl (by omega) (.slice (some ⟨w.heap.size, 0, none⟩) 0 0) 0 [] rfl HO.out ad 0 c [] rfl rfl (fun j u hu => by simp at hu) (fun u hu => by simp at hu) (by unfold maxLen; omega) (by omega) (by simp) ?_)
      intro v' w1 hown1 hgrow _ hat
      have hk := (Kept.alloc (fun _ => False) w (.cells #[] 31)).trans (T := fun _ => False) (Kept.ofGrown (S := fun k => k = w.heap.size) hgrow (fun k e => by simp [Value.ownBlock] at e; exact e.symm)) (fun _ _ h => h) (fun i hi e => by omega)
      have HO1 := Lib.hid hown1; have HK := Lib.hid hk
      clear hown1 hgrow hat hk
      go_wp2
      go_ret
      exact ⟨_, rfl, by unfold OwnK; simpa [flatK] using HO1.out, HK.out⟩
  · exact tclone_any v l w h hl

theorem cellsTok : Tryd.prog.cellsOf 31 = 4 := by kernel_rfl
theorem cellsKindJ : Tryd.prog.cellsOf 29 = 1 := by kernel_rfl
theorem cellsStJ : Tryd.prog.cellsOf 9 = 1 := by kernel_rfl
theorem cellsIntJ : Tryd.prog.cellsOf 3 = 1 := by kernel_rfl
theorem add_plainJ (g off n : Nat) : (⟨g, off, none⟩ : Addr).add n = ⟨g, off + n, none⟩ := by unfold Addr.add; split <;> simp_all

set_option maxRecDepth 100000 in
theorem toks_of {H : Type} {enc : TypeId × Value → H} {W : World} {a : Option Addr} {len cap : Nat} {y : DataW H × List MemPlace} {fuel : Nat} (h : DataW.trod enc Tryd.prog W 0 (fun _ => true) true fuel 24 [.slice a len cap] = some y) :
    ∃ l : List Tok, l.length = len ∧ ToksIn W (.slice a len cap) l ∧ ∀ x ∈ l, x.k < 256 ∧ x.t.size ≤ maxLen := by
  rcases open_slice Tryd.underlying24 h with ⟨hcs, _⟩ | ⟨x, l, c, m, n, D, Pl, hcs, _, hl, hm, hmm, _, hi⟩
  · injection hcs with hcs
    injection hcs with e1 e2 e3
    subst e1 e2 e3
    exact ⟨[], rfl, Or.inl ⟨⟨_, _, rfl, Nat.zero_le _⟩, rfl⟩, fun x hx => by simp at hx⟩
  · injection hcs with hcs
    injection hcs with e1 e2 e3
    subst e1 e2 e3
    simp only [if_true] at hmm
    subst hmm
    by_cases h0 : len = 0
    · subst h0
      exact ⟨[], rfl, Or.inl ⟨⟨_, _, rfl, by first | exact hm | omega⟩, rfl⟩, fun x hx => by simp at hx⟩
    · have hel : ∀ i, i < len → ∃ t : Tok, t.k < 256 ∧ t.t.size ≤ maxLen ∧ W.cell? ((x.add (i * 4)).add 0) = some (.int .u8 (t.k : Int)) ∧ W.cell? ((x.add (i * 4)).add 1) = some (.string t.t) ∧ W.cell? ((x.add (i * 4)).add 2) = some (.int .i64 t.n) ∧ W.cell? ((x.add (i * 4)).add 3) = some (.int .i64 t.i) := by
        intro i hil
        obtain ⟨cs', hc, ht⟩ := hi i (by omega)
        rw [cellsTok] at hc
        obtain ⟨_, hcl, hat⟩ := World.cells?_some hc
        obtain ⟨y0, y1, y2, y3, fu, _, hlen, t0, t1, t2, t3⟩ := trod_struct4 Tryd.underlying31 ht
        rw [cellsTok] at hlen
        match cs', hlen with
        | [x0, x1, x2, x3], _ =>
          have t0 : DataW.trod enc Tryd.prog W 0 (fun _ => true) true fu 29 [x0] = some y0 := by simpa [cellsKindJ] using t0
          have t1 : DataW.trod enc Tryd.prog W 0 (fun _ => true) true fu 9 [x1] = some y1 := by simpa [cellsStJ] using t1
          have t2 : DataW.trod enc Tryd.prog W 0 (fun _ => true) true fu 3 [x2] = some y2 := by simpa [cellsIntJ] using t2
          have t3 : DataW.trod enc Tryd.prog W 0 (fun _ => true) true fu 3 [x3] = some y3 := by simpa [cellsIntJ] using t3
          obtain ⟨i0, e0, _, w0⟩ := DataW.trod_int Tryd.underlying29 t0
          obtain ⟨s1, e1, _, hsz⟩ := DataW.trod_string Tryd.underlying9 t1
          obtain ⟨i2, e2, _, w2⟩ := DataW.trod_int Tryd.underlying3 t2
          obtain ⟨i3, e3, _, w3⟩ := DataW.trod_int Tryd.underlying3 t3
          injection e0 with e0; injection e1 with e1; injection e2 with e2; injection e3 with e3
          subst e0 e1 e2 e3
          obtain ⟨kd, rfl, hk⟩ := u8_natJ _ w0
          exact ⟨⟨kd, s1, i2, i3⟩, hk, hsz, hat 0 (by omega), hat 1 (by omega), hat 2 (by omega), hat 3 (by omega)⟩
      obtain ⟨f, hf⟩ := Classical.axiomOfChoice (fun i : Fin len => hel i.1 i.2)
      have hll : (List.ofFn f).length = len := by simp
      have hget : ∀ i (hi : i < len), (List.ofFn f).getD i tok0 = f ⟨i, hi⟩ := fun i hi => by simp [List.getD, hi]
      obtain ⟨_, _, hx0, _⟩ := hf ⟨0, by omega⟩
      simp only at hx0
      rw [show (x.add (0 * 4)).add 0 = x from rfl] at hx0
      have hs := World.cell?_spot hx0
      have hlt := World.block_lt_of_cell? W _ hx0
      obtain ⟨g, off, spot⟩ := x
      simp only at hs
      subst hs
      refine ⟨List.ofFn f, hll, Or.inr (Or.inr ⟨g, off, _, by rw [hll], by rw [hll]; exact hl, hm, hlt, fun i hi => ?_⟩), fun t ht => ?_⟩
      · rw [hll] at hi
        rw [hget i hi]
        obtain ⟨_, _, c0, c1, c2, c3⟩ := hf ⟨i, hi⟩
        simp only at c0 c1 c2 c3
        rw [add_plainJ, add_plainJ] at c0 c1 c2 c3
        exact ⟨c0, c1, c2, c3⟩
      · obtain ⟨i, hi, rfl⟩ := List.getElem_of_mem ht
        have hi2 : i < len := by rw [hll] at hi; exact hi
        have e : (List.ofFn f)[i] = f ⟨i, hi2⟩ := by simp
        rw [e]
        exact ⟨(hf ⟨i, hi2⟩).1, (hf ⟨i, hi2⟩).2.1⟩
set_option maxRecDepth 100000 in
theorem toks_in {H : Type} {enc : TypeId × Value → H} {W : World} {base : Nat} {v : Value} {d : DataW H} {p : List MemPlace} (o : Value.okWide Tryd.prog W .any base 24 v) (h : DataW.Trod enc Tryd.prog W 0 (fun _ => true) true 24 v d p) :
    ∃ l : List Tok, ToksIn W v l ∧ ∀ x ∈ l, x.k < 256 ∧ x.t.size ≤ maxLen := by
  obtain ⟨a, len, cap, rfl⟩ := okWide_slice Tryd.underlying24 o
  obtain ⟨fuel, h⟩ := h
  simp [Value.cells] at h
  obtain ⟨l, rfl, h1, h2⟩ := toks_of h
  exact ⟨l, h1, h2⟩
end Go.Proofs.YthkjcgcfbodgbaaDoor
