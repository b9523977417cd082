/-
  Proved: arbaclaw02.WireCuts returns true for every value and every uint16, in whatever memory, and changes nothing that was there. No condition.
-/
import Derived.Test.YtknphfednknajabRows
import Derived.Test.YtknphfednknajabCuts
import Derived.WalkKit
import Derived.ProofKit
import Derived.OpenShut
import Derived.ChangeOld
import Derived.Below
import Derived.Lib.SmallJoins
namespace Go.Proofs.Ytknphfednknajab.wireCuts
open Go.Joins Go.ChangeShapes Go.WideShapes Go.ChangeAt Go.RowKit Go.Deep
set_option linter.unusedVariables false

theorem own : ownKnob Try.prog.godebug = none := by kernel_rfl
theorem laidOut : laidOutB Try.prog = true := by kernel_rfl

/-- A slice of bytes that came in: nil, or a row of cells. -/
def IsRow (k : IntKind) (w : World) (a : Option Addr) (len cap : Nat) (zs : List Int) : Prop :=
  (a = none ∧ len = 0 ∧ cap = 0 ∧ zs = []) ∨
  ∃ x, a = some x ∧ len ≤ cap ∧ cap ≤ maxLen ∧ zs.length = cap ∧ (∀ i, i < zs.length → w.cell? (x.add i) = some (.int k (zs.getD i 0))) ∧ ∀ n ∈ zs, (Lit.int k n).wf = true

theorem u16_nat (a : Int) (h : (Lit.int .u16 a).wf = true) : ∃ n : Nat, a = (n : Int) ∧ n < 65536 := by
  simp [Lit.wf, IntKind.min, IntKind.max, IntKind.signed, IntKind.bits] at h
  exact ⟨a.toNat, by omega, by omega⟩

theorem u8_nat (a : Int) (h : (Lit.int .u8 a).wf = true) : ∃ n : Nat, a = (n : Int) ∧ n < 256 := by
  simp [Lit.wf, IntKind.min, IntKind.max, IntKind.signed, IntKind.bits] at h
  exact ⟨a.toNat, by omega, by omega⟩
theorem u64_nat (a : Int) (h : (Lit.int .u64 a).wf = true) : ∃ n : Nat, a = (n : Int) ∧ n < 18446744073709551616 := by
  simp [Lit.wf, IntKind.min, IntKind.max, IntKind.signed, IntKind.bits] at h
  exact ⟨a.toNat, by omega, by omega⟩
theorem i64_in (a : Int) (h : (Lit.int .i64 a).wf = true) : -9223372036854775808 ≤ a ∧ a < 9223372036854775808 := by
  simp [Lit.wf, IntKind.min, IntKind.max, IntKind.signed, IntKind.bits] at h
  omega

theorem cells44 : Try.prog.cellsOf 44 = 4 := by kernel_rfl
theorem types44 : Try.prog.cellTypes Try.prog.depth 44 = some [5, 42, 2, 28] := by kernel_rfl

/-- The slice in a value that came in. -/
theorem ok_field {W : World} {base : Nat} {v0 v1 v2 v3 : Value} (h : Value.okWide Try.prog W .any base 44 (.agg #[v0, v1, v2, v3])) : Value.okWide Try.prog W .any base 28 v3 := by
  simp only [Value.okWide, Try.underlying44] at h
  obtain ⟨cs, hcs, _, ts, hts, _, hall⟩ := h
  rw [types44] at hts
  injection hts with hts
  subst hts
  injection hcs with hcs
  subst hcs
  obtain ⟨u, hu, ho⟩ := hall 3 v3 rfl
  simp at hu
  subst hu
  simp only [Value.okWide, Try.underlying28]
  exact ho

theorem walk (k U S : Int) (a : Option Addr) (len cap : Nat) (m : Int) (w : World) (wk : (Lit.int .u8 k).wf = true) (wU : (Lit.int .u64 U).wf = true) (wS : (Lit.int .i64 S).wf = true) (w0 : ∃ xs, InBytes w (.slice a len cap) xs) (w1 : (Lit.int .u16 m).wf = true) :
    Calls Try.prog 7 #[.agg #[.int .u8 k, .int .u64 U, .int .i64 S, .slice a len cap], .int .u16 m] w fun e w' => e = .returned (.bool true) ∧ Below w.heap.size w w' := by
  obtain ⟨ps, hp⟩ := w0
  obtain ⟨kn, rfl, hk⟩ := u8_nat k wk
  obtain ⟨Un, rfl, hU⟩ := u64_nat U wU
  obtain ⟨mn, rfl, hm⟩ := u16_nat m w1
  exact cuts_any kn Un S a len cap ps mn w hp hk hU (i64_in S wS) hm

set_option maxRecDepth 100000 in
theorem lifted (os : Os) (started : os.Started) (H : Type) (enc : TypeId × Value → H) :
    ReturnsInHanded {} Try.checked os 7 .any (Rows.wireCutsSpec.pre6 enc Try.prog Try.f7 Rows.wireCutsRow.domain false) (Rows.wireCutsSpec.post enc Try.prog Try.f7 false true false false) := by
  refine returnsInHanded_of_change (C := Try.checked) own started (by kernel_rfl) Try.func7
    (ChangeSpec.witness6 (enc := enc) (C := Try.checked) false ⟨#[], #[.agg #[.int .u8 0, .int .u64 0, .int .i64 0, .slice none 0 0], .int .u16 0], []⟩ 8 (by kernel_rfl) (by kernel_rfl) (by kernel_rfl) (by kernel_rfl)) ?_
  intro W base args ds gs before hval0 hW hcnd _
  have hval : ∀ (j : Nat) t v, Try.f7.params[j]? = some t → args[j]? = some v → Value.okWide Try.prog W .any base t v := hval0
  have hW' := hW
  obtain ⟨p, q, hA0, hV, rfl, hfz, hnd⟩ := hW
  have hA : DataW.TrodAll enc Try.prog W 0 (fun _ => true) true Try.f7.params.toList args.toList ds p := hA0
  rw [Try.params7] at hA hval
  obtain ⟨v0, vs0, d0, ds0, p0, q0, hargs, rfl, rfl, h0, r0⟩ := trodAll_cons hA
  obtain ⟨v1, vs1, d1, ds1, p1, q1, rfl, rfl, rfl, h1, r1⟩ := trodAll_cons r0
  obtain ⟨rfl, rfl, rfl⟩ := trodAll_nil r1
  obtain rfl : args = #[v0, v1] := by cases args; simp_all
  obtain ⟨rfl, rfl⟩ := trodVars_none hV
  have o0 := hval 0 44 v0 rfl rfl
  have k0 := h0
  have lt0 : ∀ x ∈ p0, x.block < W.heap.size := by obtain ⟨m, hm⟩ := k0; exact DataW.trod_lt m _ _ _ hm
  obtain ⟨f0, f1, f2, f3, y0, y1, y2, y3, nn, rfl, _, _, t0, t1, t2, t3⟩ := open_agg4 Try.underlying44 (by kernel_rfl) cells44 o0 h0
  obtain ⟨i0, e0, _, wk⟩ := DataW.trod_int Try.underlying5 t0
  obtain ⟨i1, e1, _, wU⟩ := DataW.trod_int Try.underlying42 t1
  obtain ⟨i2, e2, _, wS⟩ := DataW.trod_int Try.underlying2 t2
  injection e0 with e0; injection e1 with e1; injection e2 with e2
  subst e0 e1 e2
  have o3 := ok_field o0
  obtain ⟨a0, len0, cap0, rfl⟩ := okWide_slice Try.underlying28 o3
  obtain ⟨z0, w0⟩ : ∃ zs, IsRow .u8 W a0 len0 cap0 zs := by
    rcases open_ints Try.underlying28 Try.underlying5 (by kernel_rfl) t3 with ⟨hcs, _⟩ | ⟨x, l, c, zs, hcs, _, hl, hm, hz, _, hcell, hwz⟩
    · simp at hcs
      obtain ⟨rfl, rfl, rfl⟩ := hcs
      exact ⟨[], .inl ⟨rfl, rfl, rfl, rfl⟩⟩
    · simp at hcs
      obtain ⟨rfl, rfl, rfl⟩ := hcs
      exact ⟨zs, .inr ⟨_, rfl, hl, hm, by simpa using hz, hcell, hwz⟩⟩
  obtain ⟨a1, rfl, rfl, rfl, w1⟩ := open_int Try.underlying48 (hval 1 48 v1 rfl rfl) h1
  clear hA0 hval0
  refine (walk i0 i1 i2 a0 len0 cap0 a1 W wk wU wS (in_bytes Try.underlying28 o3 w0) w1).mono fun e W' ⟨he, bel⟩ => ?_
  subst he
  exact ⟨_, rfl, _, _, _, [], _, [], hW', trodAll_mk1 (shut_bool Try.underlying4 _), (trodAll_cons_mk (Below.trod laidOut (by kernel_rfl) (of_decide_eq_true (by kernel_rfl)) k0 bel lt0) (trodAll_cons_mk (shut_int Try.underlying48 w1) trodAll_mk0)), rfl, bel.frame _, fun h => by cases h⟩

theorem over : Rows.wireCutsRow.holds Try.pinned (OpenSpec.ofChange Rows.wireCutsSpec) :=
  OpenClaim.holds_of_wide 7 Try.f7 rfl rfl rfl rfl rfl rfl rfl ⟨rfl, rfl, rfl, rfl, rfl⟩ rfl rfl rfl rfl rfl (by kernel_rfl) Try.func7 (by kernel_rfl)
    (of_decide_eq_true (by kernel_rfl)) (by unfold Func.isWrapper; first | (rw [if_pos (by decide +kernel)]; kernel_rfl) | (rw [if_neg (by decide +kernel)]; exact ⟨rfl, rfl⟩))
    (fun os started H enc _ => lifted os started H enc)

theorem proved : Rows.WireCutsSaid := over
end Go.Proofs.Ytknphfednknajab.wireCuts
