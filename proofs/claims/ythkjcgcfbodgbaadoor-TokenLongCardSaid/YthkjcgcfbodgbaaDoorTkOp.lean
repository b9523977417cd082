/-
  Calls of a reader as they come in (one, and a list).
-/
import Derived.Test.YthkjcgcfbodgbaaDoorTkCl
import Derived.Test.YthkjcgcfbodgbaaDoorArgIn
import Derived.OpenShut
import Derived.ChangeMaps5
import Derived.Lib.SmallJoins
import Derived.Deep.Slices
namespace Go.Proofs.YthkjcgcfbodgbaaDoor
open Go.Joins Go.ChangeShapes Go.WideShapes Go.ChangeAt Go.RowKit Go.Deep
set_option linter.unusedSimpArgs false
set_option linter.unusedVariables false
set_option linter.constructorNameAsVariable false

theorem u8_natT (a : Int) (h : (Lit.int .u8 a).wf = true) : ∃ n : Nat, a = (n : Int) ∧ n < 256 := by
  simp [Lit.wf, IntKind.min, IntKind.max, IntKind.signed, IntKind.bits] at h
  exact ⟨a.toNat, by omega, by omega⟩

/-- A call in memory: its four cells. -/
structure CallAt (w : World) (g o : Nat) (kd tx : Nat) (lo hi : Int) : Prop where
  c0 : w.cell? ⟨g, o, none⟩ = some (.int .u8 (kd : Int))
  c1 : w.cell? ⟨g, o + 1, none⟩ = some (.int .u8 (tx : Int))
  c2 : w.cell? ⟨g, o + 2, none⟩ = some (.int .i64 lo)
  c3 : w.cell? ⟨g, o + 3, none⟩ = some (.int .i64 hi)
  kd : kd < 256
  tx : tx < 256
theorem CallAt.kept {w w' : World} {g o kd tx : Nat} {lo hi : Int} (h : CallAt w g o kd tx lo hi) (hk : Kept (fun _ => False) w w') : CallAt w' g o kd tx lo hi :=
  ⟨(hk.cell (World.block_lt_of_cell? w _ h.c0) (fun h => h)).trans h.c0, (hk.cell (World.block_lt_of_cell? w _ h.c1) (fun h => h)).trans h.c1, (hk.cell (World.block_lt_of_cell? w _ h.c2) (fun h => h)).trans h.c2, (hk.cell (World.block_lt_of_cell? w _ h.c3) (fun h => h)).trans h.c3, h.kd, h.tx⟩
/-- A list of calls in memory. -/
def CallsL (w : World) (v : Value) (N : Nat) : Prop :=
  ((∃ a c, v = .slice a 0 c ∧ c ≤ 9223372036854775807) ∧ N = 0) ∨
  ∃ g off cap, v = .slice (some ⟨g, off, none⟩) N cap ∧ (N ≤ cap ∧ cap ≤ 9223372036854775807) ∧ ∀ i, i < N → ∃ kd tx lo hi, CallAt w g (off + i * 4) kd tx lo hi
theorem CallsL.kept {w w' : World} {v : Value} {N : Nat} (h : CallsL w v N) (hk : Kept (fun _ => False) w w') : CallsL w' v N := by
  rcases h with h | ⟨g, off, cap, e, hc, h⟩
  · exact Or.inl h
  · exact Or.inr ⟨g, off, cap, e, hc, fun i hi => by
      obtain ⟨kd, tx, lo, hi', ho⟩ := h i hi
      exact ⟨kd, tx, lo, hi', ho.kept hk⟩⟩
theorem CallsL.form {w : World} {v : Value} {N : Nat} (h : CallsL w v N) : ∃ a c, v = .slice a N c ∧ N ≤ c ∧ c ≤ 9223372036854775807 := by
  rcases h with ⟨⟨a, c, rfl, hc⟩, rfl⟩ | ⟨g, off, cap, rfl, hc, h⟩
  · exact ⟨_, _, rfl, Nat.zero_le _, hc⟩
  · exact ⟨_, _, rfl, hc.1, hc.2⟩
theorem CallsL.at {w : World} {a : Option Addr} {c N k : Nat} (h : CallsL w (.slice a N c) N) (hk : k < N) :
    ∃ g off kd tx lo hi, a = some ⟨g, off, none⟩ ∧ CallAt w g (off + k * 4) kd tx lo hi := by
  rcases h with ⟨_, rfl⟩ | ⟨g, off, cap, h, _, h3⟩
  · omega
  · cases h
    obtain ⟨kd, tx, lo, hi, ho⟩ := h3 k hk
    exact ⟨g, off, kd, tx, lo, hi, rfl, ho⟩

theorem cellsOp15 : Tryd.prog.cellsOf 60 = 4 := by kernel_rfl
theorem cellsU8T : Tryd.prog.cellsOf 5 = 1 := by kernel_rfl
theorem cellsIntT : Tryd.prog.cellsOf 3 = 1 := by kernel_rfl
theorem add_plainT (g off n : Nat) : (⟨g, off, none⟩ : Addr).add n = ⟨g, off + n, none⟩ := by unfold Addr.add; split <;> simp_all

set_option maxRecDepth 100000 in
theorem callsL_of {H : Type} {enc : TypeId × Value → H} {W : World} {a : Option Addr} {len cap : Nat} {y : DataW H × List MemPlace} {fuel : Nat} (h : DataW.trod enc Tryd.prog W 0 (fun _ => true) true fuel 70 [.slice a len cap] = some y) :
    CallsL W (.slice a len cap) len := by
  rcases open_slice Tryd.underlying70 h with ⟨hcs, _⟩ | ⟨x, l, c, m, n, D, Pl, hcs, _, hl, hm, hmm, _, hi⟩
  · injection hcs with hcs
    injection hcs with e1 e2 e3
    subst e1 e2 e3
    exact Or.inl ⟨⟨_, _, rfl, by omega⟩, rfl⟩
  · injection hcs with hcs
    injection hcs with e1 e2 e3
    subst e1 e2 e3
    simp only [if_true] at hmm
    subst hmm
    have hel : ∀ i, i < len → ∃ x0 x1 x2 x3 fu y0 y1 y2 y3, W.cell? ((x.add (i * 4)).add 0) = some x0 ∧ W.cell? ((x.add (i * 4)).add 1) = some x1 ∧ W.cell? ((x.add (i * 4)).add 2) = some x2 ∧ W.cell? ((x.add (i * 4)).add 3) = some x3 ∧
        DataW.trod enc Tryd.prog W 0 (fun _ => true) true fu 5 [x0] = some y0 ∧ DataW.trod enc Tryd.prog W 0 (fun _ => true) true fu 5 [x1] = some y1 ∧ DataW.trod enc Tryd.prog W 0 (fun _ => true) true fu 3 [x2] = some y2 ∧ DataW.trod enc Tryd.prog W 0 (fun _ => true) true fu 3 [x3] = some y3 := by
      intro i hil
      obtain ⟨cs', hc, ht⟩ := hi i (by omega)
      rw [cellsOp15] at hc
      obtain ⟨_, hcl, hat⟩ := World.cells?_some hc
      obtain ⟨y0, y1, y2, y3, fu, _, hlen, t0, t1, t2, t3⟩ := trod_struct4 Tryd.underlying60 ht
      rw [cellsOp15] at hlen
      match cs', hlen with
      | [x0, x1, x2, x3], _ =>
        refine ⟨x0, x1, x2, x3, fu, y0, y1, y2, y3, hat 0 (by omega), hat 1 (by omega), hat 2 (by omega), hat 3 (by omega), ?_, ?_, ?_, ?_⟩
        · simpa [cellsU8T] using t0
        · simpa [cellsU8T] using t1
        · simpa [cellsIntT] using t2
        · simpa [cellsIntT] using t3
    by_cases h0 : len = 0
    · subst h0
      exact Or.inl ⟨⟨_, _, rfl, (by unfold maxLen at hm; omega)⟩, rfl⟩
    · obtain ⟨x0, _, _, _, _, _, _, _, _, hx0, _⟩ := hel 0 (by omega)
      rw [show (x.add (0 * 4)).add 0 = x from rfl] at hx0
      have hs := World.cell?_spot hx0
      obtain ⟨g, off, spot⟩ := x
      simp only at hs
      subst hs
      refine Or.inr ⟨g, off, _, rfl, ⟨hl, by unfold maxLen at hm; omega⟩, fun i hil => ?_⟩
      obtain ⟨x0, x1, x2, x3, fu, y0, y1, y2, y3, c0, c1, c2, c3, t0, t1, t2, t3⟩ := hel i hil
      rw [add_plainT, add_plainT] at c0 c1 c2 c3
      obtain ⟨i0, e0, _, w0⟩ := DataW.trod_int Tryd.underlying5 t0
      obtain ⟨i1, e1, _, w1⟩ := DataW.trod_int Tryd.underlying5 t1
      obtain ⟨i2, e2, _, w2⟩ := DataW.trod_int Tryd.underlying3 t2
      obtain ⟨i3, e3, _, w3⟩ := DataW.trod_int Tryd.underlying3 t3
      injection e0 with e0; injection e1 with e1; injection e2 with e2; injection e3 with e3
      subst e0 e1 e2 e3
      obtain ⟨kd, rfl, h0⟩ := u8_natT _ w0
      obtain ⟨tx, rfl, h1⟩ := u8_natT _ w1
      exact ⟨kd, tx, i2, i3, c0, c1, c2, c3, h0, h1⟩

set_option maxRecDepth 100000 in
theorem calls_in {H : Type} {enc : TypeId × Value → H} {W : World} {base : Nat} {v : Value} {d : DataW H} {p : List MemPlace} (o : Value.okWide Tryd.prog W .any base 70 v) (h : DataW.Trod enc Tryd.prog W 0 (fun _ => true) true 70 v d p) :
    ∃ a N c, v = .slice a N c ∧ CallsL W (.slice a N c) N := by
  obtain ⟨a, len, cap, rfl⟩ := okWide_slice Tryd.underlying70 o
  obtain ⟨fuel, h⟩ := h
  simp [Value.cells] at h
  exact ⟨a, len, cap, rfl, callsL_of h⟩
set_option maxRecDepth 100000 in
theorem call_in {H : Type} {enc : TypeId × Value → H} {W : World} {base : Nat} {v : Value} {d : DataW H} {p : List MemPlace} (o : Value.okWide Tryd.prog W .any base 60 v) (h : DataW.Trod enc Tryd.prog W 0 (fun _ => true) true 60 v d p) :
    ∃ (kd tx : Nat) (lo hi : Int), v = .agg #[.int .u8 (kd : Int), .int .u8 (tx : Int), .int .i64 lo, .int .i64 hi] ∧ kd < 256 ∧ tx < 256 := by
  obtain ⟨v0, v1, v2, v3, y0, y1, y2, y3, n, rfl, _, _, t0, t1, t2, t3⟩ := open_agg4 Tryd.underlying60 (by kernel_rfl) (by kernel_rfl) o h
  obtain ⟨i0, e0, _, w0⟩ := DataW.trod_int Tryd.underlying5 t0
  obtain ⟨i1, e1, _, w1⟩ := DataW.trod_int Tryd.underlying5 t1
  obtain ⟨i2, e2, _, w2⟩ := DataW.trod_int Tryd.underlying3 t2
  obtain ⟨i3, e3, _, w3⟩ := DataW.trod_int Tryd.underlying3 t3
  injection e0 with e0; injection e1 with e1; injection e2 with e2; injection e3 with e3
  subst e0 e1 e2 e3
  obtain ⟨kd, rfl, h0⟩ := u8_natT _ w0
  obtain ⟨tx, rfl, h1⟩ := u8_natT _ w1
  exact ⟨kd, tx, i2, i3, rfl, h0, h1⟩
end Go.Proofs.YthkjcgcfbodgbaaDoor
