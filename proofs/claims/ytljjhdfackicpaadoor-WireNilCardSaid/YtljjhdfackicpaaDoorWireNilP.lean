/-
  Proved: the tied card of arbaclaw02.WireNil: for every value and every call, it returns true; nothing that was there is changed. The one condition is the row's own: math/bits.deBruijn64tab reads as the library's text lays it (tied).
-/
import Derived.Test.YtljjhdfackicpaaDoorRows
import Derived.Test.YtljjhdfackicpaaDoorTie
import Derived.Test.YtljjhdfackicpaaDoorCards
import Derived.Test.YtljjhdfackicpaaDoorBTzCard
import Derived.Test.YtljjhdfackicpaaDoorWnC
import Derived.WalkKit
import Derived.ProofKit
import Derived.OpenShut
import Derived.ChangeOld
import Derived.Below
import Derived.LaidMore
import Derived.Stop.Joined
import Derived.SevenTiedAt
import Derived.Lib.SmallJoins
import Derived.Laws.IdiomArrays
namespace Go.Proofs.YtljjhdfackicpaaDoor.wireNil
open Go.ChangeShapes Go.WideShapes Go.ChangeAt Go.RowKit Go.Joins
set_option linter.unusedVariables false

set_option maxRecDepth 100000 in
theorem lifted (os : Os) (started : os.Started) (H : Type) (enc : TypeId × Value → H) :
    ReturnsInHanded {} Tryd.checked os 12 .any (fun w args => (Rows.wireNilSpec.pre enc Tryd.prog Tryd.f12 Rows.wireNilRow.domain false w args ∧ laidMetH Tryd.prog laidL w) ∧ sizedMet enc Tryd.prog Tryd.f12 (OpenSpec.ofChange Rows.wireNilSpec) false w args)
      (Rows.wireNilSpec.post enc Tryd.prog Tryd.f12 false true false false) := by
  refine returnsInHanded_of_change_and (C := Tryd.checked) (X := fun w _ => laidMetH Tryd.prog laidL w) (fun _ _ _ hh h => h.of_heap hh) ownK started (by kernel_rfl) Tryd.func12
    (ChangeSpec.witness_shaped (enc := enc) (C := Tryd.checked) (os := os) (X := fun w _ => laidMetH Tryd.prog laidL w) false (World.doorLaid Tryd.prog 400 os) #[.agg #[.int .u8 0, .int .u64 0, .int .i64 0, .slice none 0 0], .agg #[.int .u8 0, .int .i64 0, .int .i64 0]] 8 rfl (World.shaped_of_RefB (by kernel_rfl) (by kernel_rfl)) (by kernel_rfl) (by kernel_rfl) (by kernel_rfl) (door_met os _)) ?_
  intro W base args ds gs before hval0 hW _ _ hL _
  have hval : ∀ (j : Nat) t v, Tryd.f12.params[j]? = some t → args[j]? = some v → Value.okWide Tryd.prog W .any base t v := hval0
  have hW' := hW
  obtain ⟨p, q, hA0, hV, rfl, hfz, hnd⟩ := hW
  have hA : DataW.TrodAll enc Tryd.prog W 0 (fun _ => true) true Tryd.f12.params.toList args.toList ds p := hA0
  rw [Tryd.params12] at hA hval
  obtain ⟨v0, vs0, d0, ds0, p0, q0, hargs, rfl, rfl, h0, r0⟩ := trodAll_cons hA
  obtain ⟨v1, vs1, d1, ds1, p1, q1, rfl, rfl, rfl, h1, r1⟩ := trodAll_cons r0
  obtain ⟨rfl, rfl, rfl⟩ := trodAll_nil r1
  obtain rfl : args = #[v0, v1] := by cases args; simp_all
  obtain ⟨rfl, rfl⟩ := trodVars_none hV
  have hT := tab_of_laid hL
  have k0 := h0
  have lt0 : ∀ x ∈ p0, x.block < W.heap.size := by obtain ⟨m, hm⟩ := k0; exact DataW.trod_lt m _ _ _ hm
  have o0 := hval 0 78 v0 rfl rfl
  obtain ⟨f0, f1, f2, f3, y0, y1, y2, y3, nn, rfl, _, _, t0, t1, t2, t3⟩ := open_agg4 Tryd.underlying78 (by kernel_rfl) cells44 o0 h0
  obtain ⟨i0, e0, _, wk⟩ := DataW.trod_int Tryd.underlying5 t0
  obtain ⟨i1, e1, _, wU⟩ := DataW.trod_int Tryd.underlying25 t1
  obtain ⟨i2, e2, _, wS⟩ := DataW.trod_int Tryd.underlying2 t2
  injection e0 with e0; injection e1 with e1; injection e2 with e2
  subst e0 e1 e2
  have o3 := ok_field o0
  obtain ⟨a0, len0, cap0, rfl⟩ := okWide_slice Tryd.underlying48 o3
  obtain ⟨z0, w0⟩ : ∃ zs, IsRow .u8 W a0 len0 cap0 zs := by
    rcases open_ints Tryd.underlying48 Tryd.underlying5 (by kernel_rfl) t3 with ⟨hcs, _⟩ | ⟨x, l, c, zs, hcs, _, hl, hm, hz, _, hcell, hwz⟩
    · simp at hcs
      obtain ⟨rfl, rfl, rfl⟩ := hcs
      exact ⟨[], .inl ⟨rfl, rfl, rfl, rfl⟩⟩
    · simp at hcs
      obtain ⟨rfl, rfl, rfl⟩ := hcs
      exact ⟨zs, .inr ⟨_, rfl, hl, hm, by simpa using hz, hcell, hwz⟩⟩
  obtain ⟨ps, hps⟩ := in_bytes Tryd.underlying48 o3 w0
  obtain ⟨kn, rfl, hkn⟩ := u8_nat i0 wk
  obtain ⟨Un, rfl, hUn⟩ := u64_nat i1 wU
  have k1 := h1
  have lt1 : ∀ x ∈ p1, x.block < W.heap.size := by obtain ⟨m, hm⟩ := k1; exact DataW.trod_lt m _ _ _ hm
  have o1 := hval 1 73 v1 rfl rfl
  obtain ⟨g0, g1, g2, z0', z1', z2', nn', rfl, _, _, s0, s1, s2⟩ := open_agg3 Tryd.underlying73 (by kernel_rfl) cells33 o1 h1
  obtain ⟨j0, e0', _, wj⟩ := DataW.trod_int Tryd.underlying5 s0
  obtain ⟨j1, e1', _, _⟩ := DataW.trod_int Tryd.underlying3 s1
  obtain ⟨j2, e2', _, _⟩ := DataW.trod_int Tryd.underlying3 s2
  injection e0' with e0'; injection e1' with e1'; injection e2' with e2'
  subst e0' e1' e2'
  obtain ⟨jn, rfl, hjn⟩ := u8_nat j0 wj
  clear hA0 hval0
  try simp only [List.append_nil] at hW'
  refine (nil_any kn Un i2 a0 len0 cap0 ps jn j1 j2 W hps.reads hps.byte hUn (i64_in _ wS) hT).mono fun e W' ⟨he, hkk⟩ => ?_
  have bel := hkk.below (Nat.le_refl _) (fun _ h => h.elim)
  subst he
  exact ⟨_, rfl, _, _, _, [], _, [], hW', trodAll_mk1 (shut_bool Tryd.underlying4 _), (trodAll_cons_mk (Below.trod laidOutK (by kernel_rfl) (of_decide_eq_true (by kernel_rfl)) k0 bel lt0) (trodAll_cons_mk (Below.trod laidOutK (by kernel_rfl) (of_decide_eq_true (by kernel_rfl)) k1 bel lt1) trodAll_mk0)), rfl, bel.frame _, fun h => by cases h⟩

theorem over : Rows.wireNilRow.holds Tryd.pinned (OpenSpec.ofChange Rows.wireNilSpec) :=
  OpenClaim.holds_of_wide 12 Tryd.f12 rfl rfl rfl rfl rfl rfl rfl ⟨rfl, rfl, rfl, rfl, rfl⟩ rfl rfl rfl rfl rfl (by kernel_rfl) Tryd.func12 (by kernel_rfl)
    (of_decide_eq_true (by kernel_rfl)) (by unfold Func.isWrapper; first | (rw [if_pos (by decide +kernel)]; kernel_rfl) | (rw [if_neg (by decide +kernel)]; exact ⟨rfl, rfl⟩))
    (fun os started H enc _ => lifted os started H enc)

theorem proved : Rows.WireNilCardSaid :=
  Claim7.holds_tied_plain_at .later [] [.data] true _ _ over (fun _ h => by cases h) (by kernel_rfl) (fun _ h => by cases h) wireNil_row_tie rfl ⟨rfl, rfl⟩ (by kernel_rfl) rfl
    (fun f fn hf hfn => by
      obtain rfl : f = 12 := Option.some.inj ((show Tryd.prog.funcNamed "arbac/arbaclaw02.WireNil" = some 12 by kernel_rfl).symm.trans hf) |>.symm
      obtain rfl : fn = Tryd.f12 := (Option.some.inj (Tryd.func12.symm.trans hfn)).symm
      exact ⟨by kernel_rfl, fun j t ht => by
        rw [Tryd.params12] at ht
        have hm : t ∈ [78, 73] := by simpa using Array.mem_of_getElem? ht
        have hall : ([78, 73].all fun u => !Tryd.prog.wantsStandIn u) = true := by kernel_rfl
        exact (show Tryd.prog.wantsStandIn t = false by simpa using List.all_eq_true.1 hall t hm)⟩)
    (by kernel_rfl)
end Go.Proofs.YtljjhdfackicpaaDoor.wireNil
