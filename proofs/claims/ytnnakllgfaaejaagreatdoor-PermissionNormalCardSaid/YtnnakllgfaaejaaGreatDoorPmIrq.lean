/-
  The reference's Implies.
-/
import Derived.Test.YtnnakllgfaaejaaGreatDoorMgb
import Derived.Test.YtnnakllgfaaejaaGreatDoorPmP
import Derived.Deep.RegionLaw
import Derived.Deep.DrawnRows
import Derived.Deep.RegionHeld
namespace Go.Proofs.YtnnakllgfaaejaaGreatDoor
open Go.RowKit
attribute [local go_sem ↓] Go.wp_at_zero Go.wp_at_succ
set_option linter.unusedSimpArgs false
set_option linter.unusedVariables false
set_option maxRecDepth 100000

theorem step_append_strsG {w : World} {ops : Array Oper} {o : Oper} {a : Act} {K : Act → World → Prop} {Q : Exit → Act → World → Prop} {E : Prop} (hw : Region.wanted o (yielded ops a.tmps) = true) (s x : Operand)
    (ho : o.op = .call { callee := .builtin .append, args := #[s, x], argTypes := #[57, 57] }) (hty : o.type = 57) (B : Nat) (v u : Value) (acc r : List ByteArray) (hd : a.eval s = v) (hs : a.eval x = u)
    (hown : OwnS w B v acc) (hr : Strs w u r) (hl : acc.length + r.length ≤ 1000000) (hB : B ≤ w.heap.size)
    (h : ∀ a' c' w', OwnS w' B (.slice a' (acc ++ r).length c') (acc ++ r) → Kept (fun k => v.ownBlock = some k) w w' → K (a.put o.dst (.slice a' (acc ++ r).length c')) w') :
    if Region.wanted o (yielded ops a.tmps) = true then Oper.wp Tryz.prog o a w K Q else E := by
  rw [if_pos hw]
  obtain ⟨a', c', w', hrun, hf, hk⟩ := append_strs_run hown hr hl hB
  rw [← hty] at hrun
  have hrun2 : (Builtin.append_ #[57, 57] o.type #[v, u]).run Tryz.prog w = .ok (.slice a' (acc ++ r).length c') w' := by rw [hty] at hrun ⊢; exact hrun
  unfold Oper.wp execOp
  simp only [ho, resolve, invoke, builtin, Sem.run_bind, Sem.run_pure, Result.andThen_ok, List.map_toArray, List.map_cons, List.map_nil, hd, hs, hrun2]
  exact h _ _ _ hf hk

def freshN : ByteArray := (⟨#[48, 45, 102, 114, 101, 115, 104, 46, 110, 97, 109, 101]⟩ : ByteArray)
/-- A path with a further name. -/
def freshS (s : ByteArray) : ByteArray := pathS ((namesS s).getD [] ++ [freshN])
theorem freshN_name : nameS freshN = true := by kernel_rfl
theorem freshS_names {y : Per} {l : List ByteArray} (h : okP y = true) (hd : y.d = true) (hl : namesS y.p = some l) : l.length ≤ 7 ∧ namesS (freshS y.p) = some (l ++ [freshN]) := by
  have h8 := (pathS_names hl).2
  have h7 : l.length ≤ 7 := by
    have hq := h
    unfold okP dpS at hq
    rw [hl, hd] at hq
    simp at hq
    omega
  refine ⟨h7, ?_⟩
  unfold freshS
  rw [hl]
  refine namesS_path ?_ ?_
  · show (l ++ [freshN]).all nameS = true
    rw [List.all_append, h8.1]
    simp [freshN_name]
  · show (l ++ [freshN]).length ≤ 8
    simp; omega
theorem cov_iff {x : Per} (hx : okP x = true) (b : ByteArray) {s : ByteArray} (hs : (namesS s).isSome = true) : covP x b s = true ↔ b = x.a ∧ (s = x.p ∨ x.d = true ∧ withinS s x.p = true) := by
  rw [covP_eq, hx, hs]
  simp
theorem imp_split (x y : Per) : impP x y = (okP x && (okP y && (covP x y.a y.p && (!y.d || (covP x y.a (freshS y.p) && !decide (x.p = freshS y.p)))))) := by
  cases hx : okP x with
  | false => unfold impP; rw [hx]; rfl
  | true =>
  cases hy : okP y with
  | false => unfold impP; rw [hx, hy]; rfl
  | true =>
  obtain ⟨l, hl⟩ := Option.isSome_iff_exists.1 (okP_path hy)
  obtain ⟨m, hm⟩ := Option.isSome_iff_exists.1 (okP_path hx)
  have c1 := cov_iff hx y.a (okP_path hy)
  rw [Bool.true_and, Bool.true_and, Bool.eq_iff_iff, Bool.and_eq_true, c1, impP_iff]
  cases hd : y.d with
  | false =>
    simp only [Bool.not_false, Bool.true_or, and_true]
    constructor
    · rintro ⟨_, _, h | ⟨h1, h2, h3⟩⟩
      · rw [h]; exact ⟨rfl, Or.inl rfl⟩
      · exact ⟨h2.symm, Or.inr ⟨h1, h3⟩⟩
    · rintro ⟨h1, h2⟩
      refine ⟨hx, hy, ?_⟩
      cases hxd : x.d with
      | false =>
        left
        rcases h2 with h2 | ⟨h2, _⟩
        · exact per_ext h1.symm h2.symm (hxd.trans hd.symm)
        · rw [hxd] at h2; cases h2
      | true =>
        right
        refine ⟨rfl, h1.symm, ?_⟩
        rcases h2 with h2 | ⟨_, h2⟩
        · rw [h2]; exact (within_iff _ _).2 ⟨m, m, hm, hm, List.prefix_refl _⟩
        · exact h2
  | true =>
    obtain ⟨h7, hF⟩ := freshS_names hy hd hl
    have c2 := cov_iff hx y.a (s := freshS y.p) (by rw [hF]; rfl)
    have hwF : withinS (freshS y.p) x.p = true ↔ m <+: l ++ [freshN] := by
      rw [within_iff, hF, hm]
      exact ⟨fun ⟨a, b, h1, h2, h3⟩ => by cases h1; cases h2; exact h3, fun h => ⟨_, _, rfl, rfl, h⟩⟩
    have hwy : withinS y.p x.p = true ↔ m <+: l := by
      rw [within_iff, hl, hm]
      exact ⟨fun ⟨a, b, h1, h2, h3⟩ => by cases h1; cases h2; exact h3, fun h => ⟨_, _, rfl, rfl, h⟩⟩
    have hne : x.p = freshS y.p ↔ m = l ++ [freshN] := by
      constructor
      · intro h; rw [h, hF] at hm; exact (Option.some.inj hm).symm
      · intro h; rw [h] at hm; exact namesS_inj hm hF
    simp only [Bool.not_true, Bool.false_or, Bool.and_eq_true, c2, Bool.not_eq_true', decide_eq_false_iff_not]
    constructor
    · rintro ⟨_, _, h | ⟨h1, h2, h3⟩⟩
      · have hml : m = l := by rw [h, hl] at hm; exact (Option.some.inj hm).symm
        refine ⟨⟨by rw [h], Or.inl (by rw [h])⟩, ⟨by rw [h], Or.inr ⟨by rw [h]; exact hd, hwF.2 (by rw [hml]; exact List.prefix_append _ _)⟩⟩, fun e => ?_⟩
        have h9 := hne.1 e
        rw [hml] at h9
        have := congrArg List.length h9
        simp at this
      · refine ⟨⟨h2.symm, Or.inr ⟨h1, h3⟩⟩, ⟨h2.symm, Or.inr ⟨h1, hwF.2 ((hwy.1 h3).trans (List.prefix_append _ _))⟩⟩, fun e => ?_⟩
        have h9 := hne.1 e
        have := (hwy.1 h3).length_le
        rw [h9] at this
        simp at this
        omega
    · rintro ⟨⟨h1, _⟩, ⟨_, h4⟩, h5⟩
      refine ⟨hx, hy, Or.inr ?_⟩
      rcases h4 with h4 | ⟨h4, h6⟩
      · exact absurd h4.symm h5
      · refine ⟨h4, h1.symm, hwy.2 ?_⟩
        rcases List.prefix_concat_iff.1 (hwF.1 h6) with h8 | h8
        · exact absurd (hne.2 h8) h5
        · exact h8

set_option maxHeartbeats 12800000 in
theorem rimp_any (x y : Per) (hx : x.p.size ≤ 100000) (hy : y.p.size ≤ 100000) (w : World) :
    Calls Tryz.prog 30 #[perV x, perV y] w fun e w' => e = .returned (.bool (impP x y)) ∧ Kept (fun _ => False) w w' := by
  have HC1 := Lib.hid (fun W => rcheck_any x hx W)
  have HC2 := Lib.hid (fun W => rcheck_any y hy W)
  have HCV := Lib.hid (fun W => rcov_any x y.a y.p hx hy W)
  have HSP := Lib.hid (fun W => psplit_any y.p hy W)
  have hz1 := chkP_zero x
  have hz2 := chkP_zero y
  obtain ⟨l, hl⟩ : ∃ l, l = (namesS y.p).getD [] := ⟨_, rfl⟩
  have hnl : okP y = true → namesS y.p = some l := fun h => by
    obtain ⟨m, hm⟩ := Option.isSome_iff_exists.1 (okP_path h)
    rw [hl, hm]; rfl
  have hnm := fun (h : okP y = true) => pathS_names (hnl h)
  have hFs : okP y = true → y.d = true → (freshS y.p).size ≤ 100000 := fun h hd => by
    have := path_size (freshS_names h hd (hnl h)).2
    omega
  have hF : freshS y.p = pathS (([] ++ l) ++ [(⟨#[48, 45, 102, 114, 101, 115, 104, 46, 110, 97, 109, 101]⟩ : ByteArray)]) := by unfold freshS; rw [← hl]; rfl
  have hHJ : okP y = true → ∀ (W : World) (v : Value), Strs W v (([] ++ l) ++ [(⟨#[48, 45, 102, 114, 101, 115, 104, 46, 110, 97, 109, 101]⟩ : ByteArray)]) → Calls Tryz.prog 28 #[v] W fun e w' => e = .returned (.string (freshS y.p)) ∧ W = w' := fun h W v hs => by
    have hj := rjoin11_any v _ W hs (by have := (hnm h).2.2; simp; omega) (fun z hz => by
      rcases List.mem_append.1 hz with hz | hz
      · have hz' : z ∈ l := by simpa using hz
        have hq := List.all_eq_true.1 (hnm h).2.1 z hz'
        unfold nameS nameL at hq
        simp only [Bool.and_eq_true, decide_eq_true_eq] at hq
        have h3 : z.data.toList.length = z.size := rfl
        omega
      · obtain rfl : z = (⟨#[48, 45, 102, 114, 101, 115, 104, 46, 110, 97, 109, 101]⟩ : ByteArray) := by simpa using hz
        show 12 ≤ 1000
        omega)
    rw [← hF] at hj
    exact hj
  have HCF1 := Lib.hid (fun (h : (freshS y.p).size ≤ 100000) W => rcov_any x y.a (freshS y.p) hx h W)
  have hfr : (x.p.toList == (freshS y.p).toList) = decide (x.p = freshS y.p) := str_eq _ _
  have hlen : okP y = true → l.length ≤ 8 := fun h => (hnm h).2.2
  have hV := imp_split x y
  obtain ⟨V, hVV⟩ : ∃ V, V = impP x y := ⟨_, rfl⟩
  rw [← hVV] at hV ⊢
  generalize freshS y.p = F at *
  generalize decide (x.p = F) = N at *
  generalize okP x = O1 at *
  generalize covP x y.a y.p = V1 at *
  generalize covP x y.a F = V2 at *
  generalize chkP x = C1 at *
  generalize chkP y = C2 at *
  obtain ⟨a, p, d1⟩ := x
  obtain ⟨b, q, d2⟩ := y
  generalize hO2 : okP ⟨b, q, d2⟩ = O2 at *
  unfold perV at *
  simp only at HC1 HC2 HCV HSP HCF1 hfr hV hFs hnl
  have hfn : (p.toList != F.toList) = !N := by rw [bne, hfr]
  have HNL := Lib.hid hnl; have HFS := Lib.hid hFs; have HHJ := Lib.hid hHJ; have HLE := Lib.hid hlen; have HV := Lib.hid hV; have HZ1 := Lib.hid hz1; have HZ2 := Lib.hid hz2
  clear hx hy hz1 hz2 hl hnl hnm hFs hF hHJ hlen hV hVV hO2
  have BX := Lib.hid ((Bx.new w a p d1 36).stay (Kept.alloc (fun _ => False) _ (.cells #[.string b, .string q, .bool d2] 36)))
  have BY := Lib.hid (Bx.new (w.alloc (.cells #[.string a, .string p, .bool d1] 36)) b q d2 36)
  have e1 : (w.alloc (.cells #[.string a, .string p, .bool d1] 36)).heap.size = w.heap.size + 1 := by simp
  rw [e1] at BY
  have K1 := Lib.hid ((Kept.alloc (fun _ => False) w (.cells #[.string a, .string p, .bool d1] 36)).then (Kept.alloc (fun _ => False) _ (.cells #[.string b, .string q, .bool d2] 36)))
  clear e1
  go_enter Tryz.func30, Tryz.ntmps30
  go_wp2_with fail
  refine (HC1.out _).mono ?_
  generalize (w.alloc (.cells #[.string a, .string p, .bool d1] 36)).alloc (.cells #[.string b, .string q, .bool d2] 36) = W1 at *
  generalize w.heap.size = Q at *
  rintro e w2 ⟨rfl, j⟩
  have K2 := Lib.hid (K1.out.then j)
  replace BX := Lib.hid (BX.out.stay j); replace BY := Lib.hid (BY.out.stay j)
  clear j HC1 K1
  cases O1 with
  | false =>
    have hv : V = false := by rw [HV.out]; rfl
    subst hv
    have hc : ¬ C1 = 0 := fun h => by have := HZ1.out.1 h; cases this
    have hc2 : (C1 == 0) = false := by simpa using hc
    clear HV HNL HFS HHJ HLE HZ1 HZ2 hfr hfn
    go_wp2_with fail
    go_ret
    exact ⟨rfl, K2.out⟩
  | true =>
    obtain rfl : C1 = 0 := HZ1.out.2 rfl
    obtain ⟨y0, y1, y2⟩ := BY.out
    go_wp2_with fail
    refine (HC2.out _).mono ?_
    rintro e w3 ⟨rfl, j⟩
    have K3 := Lib.hid (K2.out.then j)
    replace BX := Lib.hid (BX.out.stay j); replace BY := Lib.hid (BY.out.stay j)
    clear j HC2 K2 y0 y1 y2
    cases O2 with
    | false =>
      have hv : V = false := by rw [HV.out]; rfl
      subst hv
      have hc : ¬ C2 = 0 := fun h => by have := HZ2.out.1 h; cases this
      have hc2 : (C2 == 0) = false := by simpa using hc
      clear HV HNL HFS HHJ HLE HZ1 HZ2 hfr hfn
      go_wp2_with fail
      go_ret
      exact ⟨rfl, K3.out⟩
    | true =>
      obtain rfl : C2 = 0 := HZ2.out.2 rfl
      have hl8 := HLE.out rfl
      have HLL := Lib.hid hl8
      have HJ := Lib.hid (HHJ.out rfl)
      have hnl := HNL.out rfl
      have HFS2 := Lib.hid (HFS.out rfl)
      clear HZ1 HZ2 HLE HHJ HNL HFS hl8
      have HNM := Lib.hid hnl
      clear hnl
      obtain ⟨x0, x1, x2⟩ := BX.out
      obtain ⟨y0, y1, y2⟩ := BY.out
      go_wp2_with fail
      refine (HCV.out _).mono ?_
      rintro e w4 ⟨rfl, j⟩
      have K4 := Lib.hid (K3.out.then j)
      replace BX := Lib.hid (BX.out.stay j); replace BY := Lib.hid (BY.out.stay j)
      clear j HCV K3 y0 y1 y2 x0 x1 x2
      cases V1 with
      | false =>
        have hv : V = false := by rw [HV.out]; rfl
        subst hv
        clear HV HJ HNM HFS2 HLL hfr hfn
        go_wp2_with fail
        go_ret
        exact ⟨rfl, K4.out⟩
      | true =>
        obtain ⟨y0, y1, y2⟩ := BY.out
        cases d2 with
        | false =>
          have hv : V = true := by rw [HV.out]; rfl
          subst hv
          clear HV HJ HNM HFS2 HLL hfr hfn
          go_wp2_with fail
          go_ret
          exact ⟨rfl, K4.out⟩
        | true =>
          have HCF := Lib.hid (HCF1.out (HFS2.out rfl))
          have hv : V = (V2 && !N) := by rw [HV.out]; simp
          subst hv
          clear HFS2 HCF1 HV
          go_wp2_with fail
          refine (HSP.out _).mono ?_
          rintro e wz ⟨vl, rfl, h5⟩
          have K5 := Lib.hid (K4.out.then h5.kept)
          replace BX := Lib.hid (BX.out.stay h5.kept); replace BY := Lib.hid (BY.out.stay h5.kept)
          obtain ⟨xs, hx1, hx2, hx3⟩ := h5.row
          obtain rfl : xs = l := hx3 l HNM.out
          have HLS1 := Lib.hid hx1
          have HLO := Lib.hid h5.own
          clear h5 hx1 hx2 hx3 HNM HSP y0 y1 y2
          have HLS := Lib.hid (fun (W : World) (hk : Kept (fun _ => False) wz W) => HLS1.out.kept hk (fun _ _ h => h))
          have HC := Lib.hid (fun (W : World) (hk : Kept (fun _ => False) wz W) => (⟨⟨(BX.out.stay hk).c0, (BX.out.stay hk).c1, (BX.out.stay hk).c2⟩, (BY.out.stay hk).c0, (BY.out.stay hk).c1, (BY.out.stay hk).c2⟩ : (W.cell? ⟨Q, 0, none⟩ = some (.string a) ∧ W.cell? ⟨Q, 1, none⟩ = some (.string p) ∧ W.cell? ⟨Q, 2, none⟩ = some (.bool d1)) ∧ (W.cell? ⟨Q + 1, 0, none⟩ = some (.string b) ∧ W.cell? ⟨Q + 1, 1, none⟩ = some (.string q) ∧ W.cell? ⟨Q + 1, 2, none⟩ = some (.bool true))))
          clear HLS1 HLO BX BY K4
          go_wp2_with fail
          have KD := Lib.hid ((Kept.refl (fun _ => False) wz).drew)
          try generalize xs = l at *
          cases V2 with
          | false =>
            refine wp_region_held_drew (S := fun w9 => (w9.cell? ⟨Q, 0, none⟩ = some (.string a) ∧ w9.cell? ⟨Q, 1, none⟩ = some (.string p) ∧ w9.cell? ⟨Q, 2, none⟩ = some (.bool d1)) ∧ (w9.cell? ⟨Q + 1, 0, none⟩ = some (.string b) ∧ w9.cell? ⟨Q + 1, 1, none⟩ = some (.string q) ∧ w9.cell? ⟨Q + 1, 2, none⟩ = some (.bool true))) (by kernel_rfl) (HC.out _ KD.out) (fun _ => ?_)
            generalize wz.drew = Wd at KD ⊢
            refine wpAnyH_take (i := 0) (v := .agg #[.string a, .string p, .bool d1]) rfl (by kernel_rfl) (by kernel_rfl) (by kernel_rfl) (fun _ _ _ h => h) (Or.inl ⟨by simp [Region.wanted, yielded], fun W hW => by obtain ⟨⟨s0, s1, s2⟩, s3, s4, s5⟩ := hW; go_simp⟩) (HC.out _ KD.out) ?_
            try (simp only [Act.put, List.getElem_toArray, List.getElem_cons_succ, List.getElem_cons_zero, List.setIfInBounds_toArray, List.set_cons_zero, List.set_cons_succ])
            refine wpAnyH_take (i := 1) (v := .pointer (some ⟨Q + 1, 0, none⟩)) rfl (by kernel_rfl) (by kernel_rfl) (by kernel_rfl) (fun _ _ _ h => h) (Or.inl ⟨by simp [Region.wanted, yielded], fun W hW => by obtain ⟨⟨s0, s1, s2⟩, s3, s4, s5⟩ := hW; go_simp⟩) (HC.out _ KD.out) ?_
            try (simp only [Act.put, List.getElem_toArray, List.getElem_cons_succ, List.getElem_cons_zero, List.setIfInBounds_toArray, List.set_cons_zero, List.set_cons_succ])
            refine wpAnyH_take (i := 2) (v := .string b) rfl (by kernel_rfl) (by kernel_rfl) (by kernel_rfl) (fun _ _ _ h => h) (Or.inl ⟨by simp [Region.wanted, yielded], fun W hW => by obtain ⟨⟨s0, s1, s2⟩, s3, s4, s5⟩ := hW; go_simp⟩) (HC.out _ KD.out) ?_
            try (simp only [Act.put, List.getElem_toArray, List.getElem_cons_succ, List.getElem_cons_zero, List.setIfInBounds_toArray, List.set_cons_zero, List.set_cons_succ])
            refine wpAnyH_take (i := 4) (v := vl) rfl (by kernel_rfl) (by kernel_rfl) (by kernel_rfl) (fun _ _ _ h => h) (Or.inl ⟨by simp [Region.wanted, yielded], fun W hW => by obtain ⟨⟨s0, s1, s2⟩, s3, s4, s5⟩ := hW; go_simp⟩) (HC.out _ KD.out) ?_
            try (simp only [Act.put, List.getElem_toArray, List.getElem_cons_succ, List.getElem_cons_zero, List.setIfInBounds_toArray, List.set_cons_zero, List.set_cons_succ])
            refine wpAnyH_ready (rs := [3, 6]) (by kernel_rfl) (by simp) ?_
            refine AllReadyH.cons (o := _) rfl (fun KK hKK => ?_) (AllReadyH.cons (o := _) rfl (fun KK hKK => ?_) AllReadyH.nil)
            · rw [if_pos (by simp [Region.wanted, yielded])]
              go_simp
              have hk1 := Kept.alloc (fun _ => False) Wd (.cells #[] 9)
              have E1 := Lib.hid (owns_newS Wd)
              have K1 := Lib.hid (KD.out.then hk1)
              have B1 : wz.heap.size ≤ Wd.heap.size := KD.out.size
              refine hKK.out _ _ (HC.out _ K1.out) (fun _ => ?_)
              clear hKK KK
              try (simp only [Act.put, List.getElem_toArray, List.getElem_cons_succ, List.getElem_cons_zero, List.setIfInBounds_toArray, List.set_cons_zero, List.set_cons_succ])
              generalize hg1 : Wd.alloc (.cells #[] 9) = Wx1 at E1 K1  ⊢
              clear hk1 hg1
              generalize hb1 : Wd.heap.size = gb1 at E1 B1 ⊢
              have EL1 := Lib.hid (E1.out.low B1)
              clear hb1
              refine wpAnyH_ready (rs := [5, 6]) (by kernel_rfl) (by simp) ?_
              refine AllReadyH.cons (o := _) rfl (fun KK hKK => ?_) (AllReadyH.cons (o := _) rfl (fun KK hKK => ?_) AllReadyH.nil)
              · refine step_append_strsG (by simp [Region.wanted, yielded]) _ _ (by rfl) (by rfl) wz.heap.size (.slice (some ⟨gb1, 0, none⟩) 0 0) (vl) ([]) l (by rfl) (by rfl) EL1.out (HLS.out _ K1.out) (by have := HLL.out; simp; omega) (by have := K1.out.size; omega) ?_
                intro a2 c2 w2 ho2 hk2
                generalize ([] ++ l).length = L2 at ho2 ⊢
                have E2 := Lib.hid ho2
                have K2 := Lib.hid (K1.out.trans hk2 (T := fun _ => False) (fun _ _ h => h) (fun i hi e => by have := EL1.out.lt i e; omega))
                clear ho2 hk2
                refine hKK.out _ _ (HC.out _ K2.out) (fun _ => ?_)
                clear hKK KK
                try (simp only [Act.put, List.getElem_toArray, List.getElem_cons_succ, List.getElem_cons_zero, List.setIfInBounds_toArray, List.set_cons_zero, List.set_cons_succ])
                refine wpAnyH_ready (rs := [6]) (by kernel_rfl) (by simp) ?_
                refine AllReadyH.cons (o := _) rfl (fun KK hKK => ?_) AllReadyH.nil
                rw [if_pos (by simp [Region.wanted, yielded])]
                go_simp
                have hk3 := Kept.alloc (fun _ => False) w2 (.cells #[.string (⟨#[48, 45, 102, 114, 101, 115, 104, 46, 110, 97, 109, 101]⟩ : ByteArray)] 9)
                have P3 := Lib.hid (strs_new w2 #[.string (⟨#[48, 45, 102, 114, 101, 115, 104, 46, 110, 97, 109, 101]⟩ : ByteArray)] 9 1 [(⟨#[48, 45, 102, 114, 101, 115, 104, 46, 110, 97, 109, 101]⟩ : ByteArray)] rfl rfl (by unfold maxLen; omega))
                have K3 := Lib.hid (K2.out.then hk3)
                have E3 := Lib.hid (E2.out.kept hk3 (fun _ _ h => h))
                refine hKK.out _ _ (HC.out _ K3.out) (fun _ => ?_)
                clear hKK KK
                try (simp only [Act.put, List.getElem_toArray, List.getElem_cons_succ, List.getElem_cons_zero, List.setIfInBounds_toArray, List.set_cons_zero, List.set_cons_succ])
                generalize hg3 : w2.alloc (.cells #[.string (⟨#[48, 45, 102, 114, 101, 115, 104, 46, 110, 97, 109, 101]⟩ : ByteArray)] 9) = Wx3 at P3 K3 E3 ⊢
                clear hk3 hg3
                generalize hb3 : w2.heap.size = gb3 at P3 ⊢
                clear hb3
                refine wpAnyH_ready (rs := [7]) (by kernel_rfl) (by simp) ?_
                refine AllReadyH.cons (o := _) rfl (fun KK hKK => ?_) AllReadyH.nil
                refine step_append_strsG (by simp [Region.wanted, yielded]) _ _ (by rfl) (by rfl) wz.heap.size (.slice a2 L2 c2) (.slice (some ⟨gb3, 0, none⟩) 1 1) (([] ++ l)) [(⟨#[48, 45, 102, 114, 101, 115, 104, 46, 110, 97, 109, 101]⟩ : ByteArray)] (by rfl) (by rfl) E3.out P3.out (by have := HLL.out; simp; omega) (by have := K3.out.size; omega) ?_
                intro a4 c4 w4 ho4 hk4
                generalize (([] ++ l) ++ [(⟨#[48, 45, 102, 114, 101, 115, 104, 46, 110, 97, 109, 101]⟩ : ByteArray)]).length = L4 at ho4 ⊢
                have E4 := Lib.hid ho4
                have K4 := Lib.hid (K3.out.trans hk4 (T := fun _ => False) (fun _ _ h => h) (fun i hi e => by have := E3.out.lt i e; omega))
                clear ho4 hk4
                refine hKK.out _ _ (HC.out _ K4.out) (fun _ => ?_)
                clear hKK KK
                try (simp only [Act.put, List.getElem_toArray, List.getElem_cons_succ, List.getElem_cons_zero, List.setIfInBounds_toArray, List.set_cons_zero, List.set_cons_succ])
                refine wpAnyH_ready (rs := [8]) (by kernel_rfl) (by simp) ?_
                refine AllReadyH.cons (o := _) rfl (fun KK hKK => ?_) AllReadyH.nil
                go_simp
                go_at_call 28
                refine (HJ.out _ _ (Strs.ofOwn E4.out)).mono ?_
                rintro e wj5 ⟨rfl, rfl⟩
                try go_wp2_with fail
                refine hKK.out _ _ (HC.out _ K4.out) (fun _ => ?_)
                clear hKK KK
                try (simp only [Act.put, List.getElem_toArray, List.getElem_cons_succ, List.getElem_cons_zero, List.setIfInBounds_toArray, List.set_cons_zero, List.set_cons_succ])
                refine wpAnyH_ready (rs := [9]) (by kernel_rfl) (by simp) ?_
                refine AllReadyH.cons (o := _) rfl (fun KK hKK => ?_) AllReadyH.nil
                go_simp
                go_at_call 32
                refine (HCF.out _).mono ?_
                rintro e wc6 ⟨rfl, jc6⟩
                have K6 := Lib.hid (K4.out.then jc6)
                clear jc6
                try go_wp2_with fail
                refine hKK.out _ _ (HC.out _ K6.out) (fun _ => ?_)
                clear hKK KK
                try (simp only [Act.put, List.getElem_toArray, List.getElem_cons_succ, List.getElem_cons_zero, List.setIfInBounds_toArray, List.set_cons_zero, List.set_cons_succ])
                refine wpAnyH_take (i := 10) (v := .bool false) rfl (by kernel_rfl) (by kernel_rfl) (by kernel_rfl) (fun _ _ _ h => h) (Or.inl ⟨by simp [Region.wanted, yielded], fun W hW => by obtain ⟨⟨s0, s1, s2⟩, s3, s4, s5⟩ := hW; go_simp⟩) (HC.out _ K6.out) ?_
                try (simp only [Act.put, List.getElem_toArray, List.getElem_cons_succ, List.getElem_cons_zero, List.setIfInBounds_toArray, List.set_cons_zero, List.set_cons_succ])
                refine wpAnyH_take (i := 11) (v := undef) rfl (by kernel_rfl) (by kernel_rfl) (by kernel_rfl) (fun _ _ _ h => h) (Or.inr ⟨by first | (simp [Region.wanted, yielded]; done) | (simp [Region.wanted, yielded, undef]; done), rfl⟩) (HC.out _ K6.out) ?_
                try (simp only [Act.put, List.getElem_toArray, List.getElem_cons_succ, List.getElem_cons_zero, List.setIfInBounds_toArray, List.set_cons_zero, List.set_cons_succ])
                refine wpAnyH_take (i := 12) (v := undef) rfl (by kernel_rfl) (by kernel_rfl) (by kernel_rfl) (fun _ _ _ h => h) (Or.inr ⟨by first | (simp [Region.wanted, yielded]; done) | (simp [Region.wanted, yielded, undef]; done), rfl⟩) (HC.out _ K6.out) ?_
                try (simp only [Act.put, List.getElem_toArray, List.getElem_cons_succ, List.getElem_cons_zero, List.setIfInBounds_toArray, List.set_cons_zero, List.set_cons_succ])
                refine wpAnyH_take (i := 13) (v := undef) rfl (by kernel_rfl) (by kernel_rfl) (by kernel_rfl) (fun _ _ _ h => h) (Or.inr ⟨by first | (simp [Region.wanted, yielded]; done) | (simp [Region.wanted, yielded, undef]; done), rfl⟩) (HC.out _ K6.out) ?_
                try (simp only [Act.put, List.getElem_toArray, List.getElem_cons_succ, List.getElem_cons_zero, List.setIfInBounds_toArray, List.set_cons_zero, List.set_cons_succ])
                refine wpAnyH_take (i := 14) (v := undef) rfl (by kernel_rfl) (by kernel_rfl) (by kernel_rfl) (fun _ _ _ h => h) (Or.inr ⟨by first | (simp [Region.wanted, yielded]; done) | (simp [Region.wanted, yielded, undef]; done), rfl⟩) (HC.out _ K6.out) ?_
                try (simp only [Act.put, List.getElem_toArray, List.getElem_cons_succ, List.getElem_cons_zero, List.setIfInBounds_toArray, List.set_cons_zero, List.set_cons_succ])
                refine wpAnyH_take (i := 15) (v := undef) rfl (by kernel_rfl) (by kernel_rfl) (by kernel_rfl) (fun _ _ _ h => h) (Or.inr ⟨by first | (simp [Region.wanted, yielded]; done) | (simp [Region.wanted, yielded, undef]; done), rfl⟩) (HC.out _ K6.out) ?_
                try (simp only [Act.put, List.getElem_toArray, List.getElem_cons_succ, List.getElem_cons_zero, List.setIfInBounds_toArray, List.set_cons_zero, List.set_cons_succ])
                refine wpAnyH_take (i := 16) (v := undef) rfl (by kernel_rfl) (by kernel_rfl) (by kernel_rfl) (fun _ _ _ h => h) (Or.inr ⟨by first | (simp [Region.wanted, yielded]; done) | (simp [Region.wanted, yielded, undef]; done), rfl⟩) (HC.out _ K6.out) ?_
                try (simp only [Act.put, List.getElem_toArray, List.getElem_cons_succ, List.getElem_cons_zero, List.setIfInBounds_toArray, List.set_cons_zero, List.set_cons_succ])
                refine wpAnyH_take (i := 17) (v := undef) rfl (by kernel_rfl) (by kernel_rfl) (by kernel_rfl) (fun _ _ _ h => h) (Or.inr ⟨by first | (simp [Region.wanted, yielded]; done) | (simp [Region.wanted, yielded, undef]; done), rfl⟩) (HC.out _ K6.out) ?_
                try (simp only [Act.put, List.getElem_toArray, List.getElem_cons_succ, List.getElem_cons_zero, List.setIfInBounds_toArray, List.set_cons_zero, List.set_cons_succ])
                refine wpAnyH_take (i := 18) (v := undef) rfl (by kernel_rfl) (by kernel_rfl) (by kernel_rfl) (fun _ _ _ h => h) (Or.inr ⟨by first | (simp [Region.wanted, yielded]; done) | (simp [Region.wanted, yielded, undef]; done), rfl⟩) (HC.out _ K6.out) ?_
                try (simp only [Act.put, List.getElem_toArray, List.getElem_cons_succ, List.getElem_cons_zero, List.setIfInBounds_toArray, List.set_cons_zero, List.set_cons_succ])
                refine wpAnyH_take (i := 19) (v := undef) rfl (by kernel_rfl) (by kernel_rfl) (by kernel_rfl) (fun _ _ _ h => h) (Or.inr ⟨by first | (simp [Region.wanted, yielded]; done) | (simp [Region.wanted, yielded, undef]; done), rfl⟩) (HC.out _ K6.out) ?_
                try (simp only [Act.put, List.getElem_toArray, List.getElem_cons_succ, List.getElem_cons_zero, List.setIfInBounds_toArray, List.set_cons_zero, List.set_cons_succ])
                refine wpAnyH_take (i := 20) (v := .bool false) rfl (by kernel_rfl) (by kernel_rfl) (by kernel_rfl) (fun _ _ _ h => h) (Or.inl ⟨by simp [Region.wanted, yielded], fun W hW => by obtain ⟨⟨s0, s1, s2⟩, s3, s4, s5⟩ := hW; go_simp⟩) (HC.out _ K6.out) ?_
                try (simp only [Act.put, List.getElem_toArray, List.getElem_cons_succ, List.getElem_cons_zero, List.setIfInBounds_toArray, List.set_cons_zero, List.set_cons_succ])
                refine wpAnyH_take (i := 21) (v := .bool false) rfl (by kernel_rfl) (by kernel_rfl) (by kernel_rfl) (fun _ _ _ h => h) (Or.inl ⟨by simp [Region.wanted, yielded], fun W hW => by obtain ⟨⟨s0, s1, s2⟩, s3, s4, s5⟩ := hW; go_simp⟩) (HC.out _ K6.out) ?_
                try (simp only [Act.put, List.getElem_toArray, List.getElem_cons_succ, List.getElem_cons_zero, List.setIfInBounds_toArray, List.set_cons_zero, List.set_cons_succ])
                refine wpAnyH_done (by kernel_rfl) ?_ _
                have KF := Lib.hid (K5.out.then K6.out)
                clear HC HJ HCF HLS HLL
                go_wp2_with fail
                go_ret
                exact ⟨rfl, KF.out⟩
              · rw [if_pos (by simp [Region.wanted, yielded])]
                go_simp
                have hk7 := Kept.alloc (fun _ => False) Wx1 (.cells #[.string (⟨#[48, 45, 102, 114, 101, 115, 104, 46, 110, 97, 109, 101]⟩ : ByteArray)] 9)
                have P7 := Lib.hid (strs_new Wx1 #[.string (⟨#[48, 45, 102, 114, 101, 115, 104, 46, 110, 97, 109, 101]⟩ : ByteArray)] 9 1 [(⟨#[48, 45, 102, 114, 101, 115, 104, 46, 110, 97, 109, 101]⟩ : ByteArray)] rfl rfl (by unfold maxLen; omega))
                have K7 := Lib.hid (K1.out.then hk7)
                have E7 := Lib.hid (EL1.out.kept hk7 (fun _ _ h => h))
                have hne7 : Wx1.heap.size ≠ gb1 := by have := (EL1.out.bound gb1 rfl).2; omega
                refine hKK.out _ _ (HC.out _ K7.out) (fun _ => ?_)
                clear hKK KK
                try (simp only [Act.put, List.getElem_toArray, List.getElem_cons_succ, List.getElem_cons_zero, List.setIfInBounds_toArray, List.set_cons_zero, List.set_cons_succ])
                generalize hg7 : Wx1.alloc (.cells #[.string (⟨#[48, 45, 102, 114, 101, 115, 104, 46, 110, 97, 109, 101]⟩ : ByteArray)] 9) = Wx7 at P7 K7 E7 ⊢
                clear hk7 hg7
                generalize hb7 : Wx1.heap.size = gb7 at P7 hne7 ⊢
                clear hb7
                refine wpAnyH_ready (rs := [5]) (by kernel_rfl) (by simp) ?_
                refine AllReadyH.cons (o := _) rfl (fun KK hKK => ?_) AllReadyH.nil
                refine step_append_strsG (by simp [Region.wanted, yielded]) _ _ (by rfl) (by rfl) wz.heap.size (.slice (some ⟨gb1, 0, none⟩) 0 0) (vl) ([]) l (by rfl) (by rfl) E7.out (HLS.out _ K7.out) (by have := HLL.out; simp; omega) (by have := K7.out.size; omega) ?_
                intro a8 c8 w8 ho8 hk8
                generalize ([] ++ l).length = L8 at ho8 ⊢
                have E8 := Lib.hid ho8
                have K8 := Lib.hid (K7.out.trans hk8 (T := fun _ => False) (fun _ _ h => h) (fun i hi e => by have := E7.out.lt i e; omega))
                have P8 := Lib.hid (P7.out.kept hk8 (fun j hj e => by simp [Value.ownBlock] at e hj; omega))
                clear ho8 hk8
                refine hKK.out _ _ (HC.out _ K8.out) (fun _ => ?_)
                clear hKK KK
                try (simp only [Act.put, List.getElem_toArray, List.getElem_cons_succ, List.getElem_cons_zero, List.setIfInBounds_toArray, List.set_cons_zero, List.set_cons_succ])
                refine wpAnyH_ready (rs := [7]) (by kernel_rfl) (by simp) ?_
                refine AllReadyH.cons (o := _) rfl (fun KK hKK => ?_) AllReadyH.nil
                refine step_append_strsG (by simp [Region.wanted, yielded]) _ _ (by rfl) (by rfl) wz.heap.size (.slice a8 L8 c8) (.slice (some ⟨gb7, 0, none⟩) 1 1) (([] ++ l)) [(⟨#[48, 45, 102, 114, 101, 115, 104, 46, 110, 97, 109, 101]⟩ : ByteArray)] (by rfl) (by rfl) E8.out P8.out (by have := HLL.out; simp; omega) (by have := K8.out.size; omega) ?_
                intro a9 c9 w9 ho9 hk9
                generalize (([] ++ l) ++ [(⟨#[48, 45, 102, 114, 101, 115, 104, 46, 110, 97, 109, 101]⟩ : ByteArray)]).length = L9 at ho9 ⊢
                have E9 := Lib.hid ho9
                have K9 := Lib.hid (K8.out.trans hk9 (T := fun _ => False) (fun _ _ h => h) (fun i hi e => by have := E8.out.lt i e; omega))
                clear ho9 hk9
                refine hKK.out _ _ (HC.out _ K9.out) (fun _ => ?_)
                clear hKK KK
                try (simp only [Act.put, List.getElem_toArray, List.getElem_cons_succ, List.getElem_cons_zero, List.setIfInBounds_toArray, List.set_cons_zero, List.set_cons_succ])
                refine wpAnyH_ready (rs := [8]) (by kernel_rfl) (by simp) ?_
                refine AllReadyH.cons (o := _) rfl (fun KK hKK => ?_) AllReadyH.nil
                go_simp
                go_at_call 28
                refine (HJ.out _ _ (Strs.ofOwn E9.out)).mono ?_
                rintro e wj10 ⟨rfl, rfl⟩
                try go_wp2_with fail
                refine hKK.out _ _ (HC.out _ K9.out) (fun _ => ?_)
                clear hKK KK
                try (simp only [Act.put, List.getElem_toArray, List.getElem_cons_succ, List.getElem_cons_zero, List.setIfInBounds_toArray, List.set_cons_zero, List.set_cons_succ])
                refine wpAnyH_ready (rs := [9]) (by kernel_rfl) (by simp) ?_
                refine AllReadyH.cons (o := _) rfl (fun KK hKK => ?_) AllReadyH.nil
                go_simp
                go_at_call 32
                refine (HCF.out _).mono ?_
                rintro e wc11 ⟨rfl, jc11⟩
                have K11 := Lib.hid (K9.out.then jc11)
                clear jc11
                try go_wp2_with fail
                refine hKK.out _ _ (HC.out _ K11.out) (fun _ => ?_)
                clear hKK KK
                try (simp only [Act.put, List.getElem_toArray, List.getElem_cons_succ, List.getElem_cons_zero, List.setIfInBounds_toArray, List.set_cons_zero, List.set_cons_succ])
                refine wpAnyH_take (i := 10) (v := .bool false) rfl (by kernel_rfl) (by kernel_rfl) (by kernel_rfl) (fun _ _ _ h => h) (Or.inl ⟨by simp [Region.wanted, yielded], fun W hW => by obtain ⟨⟨s0, s1, s2⟩, s3, s4, s5⟩ := hW; go_simp⟩) (HC.out _ K11.out) ?_
                try (simp only [Act.put, List.getElem_toArray, List.getElem_cons_succ, List.getElem_cons_zero, List.setIfInBounds_toArray, List.set_cons_zero, List.set_cons_succ])
                refine wpAnyH_take (i := 11) (v := undef) rfl (by kernel_rfl) (by kernel_rfl) (by kernel_rfl) (fun _ _ _ h => h) (Or.inr ⟨by first | (simp [Region.wanted, yielded]; done) | (simp [Region.wanted, yielded, undef]; done), rfl⟩) (HC.out _ K11.out) ?_
                try (simp only [Act.put, List.getElem_toArray, List.getElem_cons_succ, List.getElem_cons_zero, List.setIfInBounds_toArray, List.set_cons_zero, List.set_cons_succ])
                refine wpAnyH_take (i := 12) (v := undef) rfl (by kernel_rfl) (by kernel_rfl) (by kernel_rfl) (fun _ _ _ h => h) (Or.inr ⟨by first | (simp [Region.wanted, yielded]; done) | (simp [Region.wanted, yielded, undef]; done), rfl⟩) (HC.out _ K11.out) ?_
                try (simp only [Act.put, List.getElem_toArray, List.getElem_cons_succ, List.getElem_cons_zero, List.setIfInBounds_toArray, List.set_cons_zero, List.set_cons_succ])
                refine wpAnyH_take (i := 13) (v := undef) rfl (by kernel_rfl) (by kernel_rfl) (by kernel_rfl) (fun _ _ _ h => h) (Or.inr ⟨by first | (simp [Region.wanted, yielded]; done) | (simp [Region.wanted, yielded, undef]; done), rfl⟩) (HC.out _ K11.out) ?_
                try (simp only [Act.put, List.getElem_toArray, List.getElem_cons_succ, List.getElem_cons_zero, List.setIfInBounds_toArray, List.set_cons_zero, List.set_cons_succ])
                refine wpAnyH_take (i := 14) (v := undef) rfl (by kernel_rfl) (by kernel_rfl) (by kernel_rfl) (fun _ _ _ h => h) (Or.inr ⟨by first | (simp [Region.wanted, yielded]; done) | (simp [Region.wanted, yielded, undef]; done), rfl⟩) (HC.out _ K11.out) ?_
                try (simp only [Act.put, List.getElem_toArray, List.getElem_cons_succ, List.getElem_cons_zero, List.setIfInBounds_toArray, List.set_cons_zero, List.set_cons_succ])
                refine wpAnyH_take (i := 15) (v := undef) rfl (by kernel_rfl) (by kernel_rfl) (by kernel_rfl) (fun _ _ _ h => h) (Or.inr ⟨by first | (simp [Region.wanted, yielded]; done) | (simp [Region.wanted, yielded, undef]; done), rfl⟩) (HC.out _ K11.out) ?_
                try (simp only [Act.put, List.getElem_toArray, List.getElem_cons_succ, List.getElem_cons_zero, List.setIfInBounds_toArray, List.set_cons_zero, List.set_cons_succ])
                refine wpAnyH_take (i := 16) (v := undef) rfl (by kernel_rfl) (by kernel_rfl) (by kernel_rfl) (fun _ _ _ h => h) (Or.inr ⟨by first | (simp [Region.wanted, yielded]; done) | (simp [Region.wanted, yielded, undef]; done), rfl⟩) (HC.out _ K11.out) ?_
                try (simp only [Act.put, List.getElem_toArray, List.getElem_cons_succ, List.getElem_cons_zero, List.setIfInBounds_toArray, List.set_cons_zero, List.set_cons_succ])
                refine wpAnyH_take (i := 17) (v := undef) rfl (by kernel_rfl) (by kernel_rfl) (by kernel_rfl) (fun _ _ _ h => h) (Or.inr ⟨by first | (simp [Region.wanted, yielded]; done) | (simp [Region.wanted, yielded, undef]; done), rfl⟩) (HC.out _ K11.out) ?_
                try (simp only [Act.put, List.getElem_toArray, List.getElem_cons_succ, List.getElem_cons_zero, List.setIfInBounds_toArray, List.set_cons_zero, List.set_cons_succ])
                refine wpAnyH_take (i := 18) (v := undef) rfl (by kernel_rfl) (by kernel_rfl) (by kernel_rfl) (fun _ _ _ h => h) (Or.inr ⟨by first | (simp [Region.wanted, yielded]; done) | (simp [Region.wanted, yielded, undef]; done), rfl⟩) (HC.out _ K11.out) ?_
                try (simp only [Act.put, List.getElem_toArray, List.getElem_cons_succ, List.getElem_cons_zero, List.setIfInBounds_toArray, List.set_cons_zero, List.set_cons_succ])
                refine wpAnyH_take (i := 19) (v := undef) rfl (by kernel_rfl) (by kernel_rfl) (by kernel_rfl) (fun _ _ _ h => h) (Or.inr ⟨by first | (simp [Region.wanted, yielded]; done) | (simp [Region.wanted, yielded, undef]; done), rfl⟩) (HC.out _ K11.out) ?_
                try (simp only [Act.put, List.getElem_toArray, List.getElem_cons_succ, List.getElem_cons_zero, List.setIfInBounds_toArray, List.set_cons_zero, List.set_cons_succ])
                refine wpAnyH_take (i := 20) (v := .bool false) rfl (by kernel_rfl) (by kernel_rfl) (by kernel_rfl) (fun _ _ _ h => h) (Or.inl ⟨by simp [Region.wanted, yielded], fun W hW => by obtain ⟨⟨s0, s1, s2⟩, s3, s4, s5⟩ := hW; go_simp⟩) (HC.out _ K11.out) ?_
                try (simp only [Act.put, List.getElem_toArray, List.getElem_cons_succ, List.getElem_cons_zero, List.setIfInBounds_toArray, List.set_cons_zero, List.set_cons_succ])
                refine wpAnyH_take (i := 21) (v := .bool false) rfl (by kernel_rfl) (by kernel_rfl) (by kernel_rfl) (fun _ _ _ h => h) (Or.inl ⟨by simp [Region.wanted, yielded], fun W hW => by obtain ⟨⟨s0, s1, s2⟩, s3, s4, s5⟩ := hW; go_simp⟩) (HC.out _ K11.out) ?_
                try (simp only [Act.put, List.getElem_toArray, List.getElem_cons_succ, List.getElem_cons_zero, List.setIfInBounds_toArray, List.set_cons_zero, List.set_cons_succ])
                refine wpAnyH_done (by kernel_rfl) ?_ _
                have KF := Lib.hid (K5.out.then K11.out)
                clear HC HJ HCF HLS HLL
                go_wp2_with fail
                go_ret
                exact ⟨rfl, KF.out⟩
            · rw [if_pos (by simp [Region.wanted, yielded])]
              go_simp
              have hk12 := Kept.alloc (fun _ => False) Wd (.cells #[.string (⟨#[48, 45, 102, 114, 101, 115, 104, 46, 110, 97, 109, 101]⟩ : ByteArray)] 9)
              have P12 := Lib.hid (strs_new Wd #[.string (⟨#[48, 45, 102, 114, 101, 115, 104, 46, 110, 97, 109, 101]⟩ : ByteArray)] 9 1 [(⟨#[48, 45, 102, 114, 101, 115, 104, 46, 110, 97, 109, 101]⟩ : ByteArray)] rfl rfl (by unfold maxLen; omega))
              have K12 := Lib.hid (KD.out.then hk12)
              refine hKK.out _ _ (HC.out _ K12.out) (fun _ => ?_)
              clear hKK KK
              try (simp only [Act.put, List.getElem_toArray, List.getElem_cons_succ, List.getElem_cons_zero, List.setIfInBounds_toArray, List.set_cons_zero, List.set_cons_succ])
              generalize hg12 : Wd.alloc (.cells #[.string (⟨#[48, 45, 102, 114, 101, 115, 104, 46, 110, 97, 109, 101]⟩ : ByteArray)] 9) = Wx12 at P12 K12  ⊢
              clear hk12 hg12
              generalize hb12 : Wd.heap.size = gb12 at P12 ⊢
              clear hb12
              refine wpAnyH_ready (rs := [3]) (by kernel_rfl) (by simp) ?_
              refine AllReadyH.cons (o := _) rfl (fun KK hKK => ?_) AllReadyH.nil
              rw [if_pos (by simp [Region.wanted, yielded])]
              go_simp
              have hk13 := Kept.alloc (fun _ => False) Wx12 (.cells #[] 9)
              have E13 := Lib.hid (owns_newS Wx12)
              have K13 := Lib.hid (K12.out.then hk13)
              have B13 : wz.heap.size ≤ Wx12.heap.size := K12.out.size
              have P13 := Lib.hid (P12.out.kept hk13 (fun _ _ h => h))
              have hne13 : gb12 ≠ Wx12.heap.size := by
                obtain ⟨g9, o9, e9, hl9, _⟩ := P12.out.at (k := 0) (by simp)
                cases e9
                omega
              refine hKK.out _ _ (HC.out _ K13.out) (fun _ => ?_)
              clear hKK KK
              try (simp only [Act.put, List.getElem_toArray, List.getElem_cons_succ, List.getElem_cons_zero, List.setIfInBounds_toArray, List.set_cons_zero, List.set_cons_succ])
              generalize hg13 : Wx12.alloc (.cells #[] 9) = Wx13 at E13 K13 P13 ⊢
              clear hk13 hg13
              generalize hb13 : Wx12.heap.size = gb13 at E13 B13 hne13 ⊢
              have EL13 := Lib.hid (E13.out.low B13)
              clear hb13
              refine wpAnyH_ready (rs := [5]) (by kernel_rfl) (by simp) ?_
              refine AllReadyH.cons (o := _) rfl (fun KK hKK => ?_) AllReadyH.nil
              refine step_append_strsG (by simp [Region.wanted, yielded]) _ _ (by rfl) (by rfl) wz.heap.size (.slice (some ⟨gb13, 0, none⟩) 0 0) (vl) ([]) l (by rfl) (by rfl) EL13.out (HLS.out _ K13.out) (by have := HLL.out; simp; omega) (by have := K13.out.size; omega) ?_
              intro a14 c14 w14 ho14 hk14
              generalize ([] ++ l).length = L14 at ho14 ⊢
              have E14 := Lib.hid ho14
              have K14 := Lib.hid (K13.out.trans hk14 (T := fun _ => False) (fun _ _ h => h) (fun i hi e => by have := EL13.out.lt i e; omega))
              have P14 := Lib.hid (P13.out.kept hk14 (fun j hj e => by simp [Value.ownBlock] at e hj; omega))
              clear ho14 hk14
              refine hKK.out _ _ (HC.out _ K14.out) (fun _ => ?_)
              clear hKK KK
              try (simp only [Act.put, List.getElem_toArray, List.getElem_cons_succ, List.getElem_cons_zero, List.setIfInBounds_toArray, List.set_cons_zero, List.set_cons_succ])
              refine wpAnyH_ready (rs := [7]) (by kernel_rfl) (by simp) ?_
              refine AllReadyH.cons (o := _) rfl (fun KK hKK => ?_) AllReadyH.nil
              refine step_append_strsG (by simp [Region.wanted, yielded]) _ _ (by rfl) (by rfl) wz.heap.size (.slice a14 L14 c14) (.slice (some ⟨gb12, 0, none⟩) 1 1) (([] ++ l)) [(⟨#[48, 45, 102, 114, 101, 115, 104, 46, 110, 97, 109, 101]⟩ : ByteArray)] (by rfl) (by rfl) E14.out P14.out (by have := HLL.out; simp; omega) (by have := K14.out.size; omega) ?_
              intro a15 c15 w15 ho15 hk15
              generalize (([] ++ l) ++ [(⟨#[48, 45, 102, 114, 101, 115, 104, 46, 110, 97, 109, 101]⟩ : ByteArray)]).length = L15 at ho15 ⊢
              have E15 := Lib.hid ho15
              have K15 := Lib.hid (K14.out.trans hk15 (T := fun _ => False) (fun _ _ h => h) (fun i hi e => by have := E14.out.lt i e; omega))
              clear ho15 hk15
              refine hKK.out _ _ (HC.out _ K15.out) (fun _ => ?_)
              clear hKK KK
              try (simp only [Act.put, List.getElem_toArray, List.getElem_cons_succ, List.getElem_cons_zero, List.setIfInBounds_toArray, List.set_cons_zero, List.set_cons_succ])
              refine wpAnyH_ready (rs := [8]) (by kernel_rfl) (by simp) ?_
              refine AllReadyH.cons (o := _) rfl (fun KK hKK => ?_) AllReadyH.nil
              go_simp
              go_at_call 28
              refine (HJ.out _ _ (Strs.ofOwn E15.out)).mono ?_
              rintro e wj16 ⟨rfl, rfl⟩
              try go_wp2_with fail
              refine hKK.out _ _ (HC.out _ K15.out) (fun _ => ?_)
              clear hKK KK
              try (simp only [Act.put, List.getElem_toArray, List.getElem_cons_succ, List.getElem_cons_zero, List.setIfInBounds_toArray, List.set_cons_zero, List.set_cons_succ])
              refine wpAnyH_ready (rs := [9]) (by kernel_rfl) (by simp) ?_
              refine AllReadyH.cons (o := _) rfl (fun KK hKK => ?_) AllReadyH.nil
              go_simp
              go_at_call 32
              refine (HCF.out _).mono ?_
              rintro e wc17 ⟨rfl, jc17⟩
              have K17 := Lib.hid (K15.out.then jc17)
              clear jc17
              try go_wp2_with fail
              refine hKK.out _ _ (HC.out _ K17.out) (fun _ => ?_)
              clear hKK KK
              try (simp only [Act.put, List.getElem_toArray, List.getElem_cons_succ, List.getElem_cons_zero, List.setIfInBounds_toArray, List.set_cons_zero, List.set_cons_succ])
              refine wpAnyH_take (i := 10) (v := .bool false) rfl (by kernel_rfl) (by kernel_rfl) (by kernel_rfl) (fun _ _ _ h => h) (Or.inl ⟨by simp [Region.wanted, yielded], fun W hW => by obtain ⟨⟨s0, s1, s2⟩, s3, s4, s5⟩ := hW; go_simp⟩) (HC.out _ K17.out) ?_
              try (simp only [Act.put, List.getElem_toArray, List.getElem_cons_succ, List.getElem_cons_zero, List.setIfInBounds_toArray, List.set_cons_zero, List.set_cons_succ])
              refine wpAnyH_take (i := 11) (v := undef) rfl (by kernel_rfl) (by kernel_rfl) (by kernel_rfl) (fun _ _ _ h => h) (Or.inr ⟨by first | (simp [Region.wanted, yielded]; done) | (simp [Region.wanted, yielded, undef]; done), rfl⟩) (HC.out _ K17.out) ?_
              try (simp only [Act.put, List.getElem_toArray, List.getElem_cons_succ, List.getElem_cons_zero, List.setIfInBounds_toArray, List.set_cons_zero, List.set_cons_succ])
              refine wpAnyH_take (i := 12) (v := undef) rfl (by kernel_rfl) (by kernel_rfl) (by kernel_rfl) (fun _ _ _ h => h) (Or.inr ⟨by first | (simp [Region.wanted, yielded]; done) | (simp [Region.wanted, yielded, undef]; done), rfl⟩) (HC.out _ K17.out) ?_
              try (simp only [Act.put, List.getElem_toArray, List.getElem_cons_succ, List.getElem_cons_zero, List.setIfInBounds_toArray, List.set_cons_zero, List.set_cons_succ])
              refine wpAnyH_take (i := 13) (v := undef) rfl (by kernel_rfl) (by kernel_rfl) (by kernel_rfl) (fun _ _ _ h => h) (Or.inr ⟨by first | (simp [Region.wanted, yielded]; done) | (simp [Region.wanted, yielded, undef]; done), rfl⟩) (HC.out _ K17.out) ?_
              try (simp only [Act.put, List.getElem_toArray, List.getElem_cons_succ, List.getElem_cons_zero, List.setIfInBounds_toArray, List.set_cons_zero, List.set_cons_succ])
              refine wpAnyH_take (i := 14) (v := undef) rfl (by kernel_rfl) (by kernel_rfl) (by kernel_rfl) (fun _ _ _ h => h) (Or.inr ⟨by first | (simp [Region.wanted, yielded]; done) | (simp [Region.wanted, yielded, undef]; done), rfl⟩) (HC.out _ K17.out) ?_
              try (simp only [Act.put, List.getElem_toArray, List.getElem_cons_succ, List.getElem_cons_zero, List.setIfInBounds_toArray, List.set_cons_zero, List.set_cons_succ])
              refine wpAnyH_take (i := 15) (v := undef) rfl (by kernel_rfl) (by kernel_rfl) (by kernel_rfl) (fun _ _ _ h => h) (Or.inr ⟨by first | (simp [Region.wanted, yielded]; done) | (simp [Region.wanted, yielded, undef]; done), rfl⟩) (HC.out _ K17.out) ?_
              try (simp only [Act.put, List.getElem_toArray, List.getElem_cons_succ, List.getElem_cons_zero, List.setIfInBounds_toArray, List.set_cons_zero, List.set_cons_succ])
              refine wpAnyH_take (i := 16) (v := undef) rfl (by kernel_rfl) (by kernel_rfl) (by kernel_rfl) (fun _ _ _ h => h) (Or.inr ⟨by first | (simp [Region.wanted, yielded]; done) | (simp [Region.wanted, yielded, undef]; done), rfl⟩) (HC.out _ K17.out) ?_
              try (simp only [Act.put, List.getElem_toArray, List.getElem_cons_succ, List.getElem_cons_zero, List.setIfInBounds_toArray, List.set_cons_zero, List.set_cons_succ])
              refine wpAnyH_take (i := 17) (v := undef) rfl (by kernel_rfl) (by kernel_rfl) (by kernel_rfl) (fun _ _ _ h => h) (Or.inr ⟨by first | (simp [Region.wanted, yielded]; done) | (simp [Region.wanted, yielded, undef]; done), rfl⟩) (HC.out _ K17.out) ?_
              try (simp only [Act.put, List.getElem_toArray, List.getElem_cons_succ, List.getElem_cons_zero, List.setIfInBounds_toArray, List.set_cons_zero, List.set_cons_succ])
              refine wpAnyH_take (i := 18) (v := undef) rfl (by kernel_rfl) (by kernel_rfl) (by kernel_rfl) (fun _ _ _ h => h) (Or.inr ⟨by first | (simp [Region.wanted, yielded]; done) | (simp [Region.wanted, yielded, undef]; done), rfl⟩) (HC.out _ K17.out) ?_
              try (simp only [Act.put, List.getElem_toArray, List.getElem_cons_succ, List.getElem_cons_zero, List.setIfInBounds_toArray, List.set_cons_zero, List.set_cons_succ])
              refine wpAnyH_take (i := 19) (v := undef) rfl (by kernel_rfl) (by kernel_rfl) (by kernel_rfl) (fun _ _ _ h => h) (Or.inr ⟨by first | (simp [Region.wanted, yielded]; done) | (simp [Region.wanted, yielded, undef]; done), rfl⟩) (HC.out _ K17.out) ?_
              try (simp only [Act.put, List.getElem_toArray, List.getElem_cons_succ, List.getElem_cons_zero, List.setIfInBounds_toArray, List.set_cons_zero, List.set_cons_succ])
              refine wpAnyH_take (i := 20) (v := .bool false) rfl (by kernel_rfl) (by kernel_rfl) (by kernel_rfl) (fun _ _ _ h => h) (Or.inl ⟨by simp [Region.wanted, yielded], fun W hW => by obtain ⟨⟨s0, s1, s2⟩, s3, s4, s5⟩ := hW; go_simp⟩) (HC.out _ K17.out) ?_
              try (simp only [Act.put, List.getElem_toArray, List.getElem_cons_succ, List.getElem_cons_zero, List.setIfInBounds_toArray, List.set_cons_zero, List.set_cons_succ])
              refine wpAnyH_take (i := 21) (v := .bool false) rfl (by kernel_rfl) (by kernel_rfl) (by kernel_rfl) (fun _ _ _ h => h) (Or.inl ⟨by simp [Region.wanted, yielded], fun W hW => by obtain ⟨⟨s0, s1, s2⟩, s3, s4, s5⟩ := hW; go_simp⟩) (HC.out _ K17.out) ?_
              try (simp only [Act.put, List.getElem_toArray, List.getElem_cons_succ, List.getElem_cons_zero, List.setIfInBounds_toArray, List.set_cons_zero, List.set_cons_succ])
              refine wpAnyH_done (by kernel_rfl) ?_ _
              have KF := Lib.hid (K5.out.then K17.out)
              clear HC HJ HCF HLS HLL
              go_wp2_with fail
              go_ret
              exact ⟨rfl, KF.out⟩
          | true =>
            refine wp_region_held_drew (S := fun w9 => (w9.cell? ⟨Q, 0, none⟩ = some (.string a) ∧ w9.cell? ⟨Q, 1, none⟩ = some (.string p) ∧ w9.cell? ⟨Q, 2, none⟩ = some (.bool d1)) ∧ (w9.cell? ⟨Q + 1, 0, none⟩ = some (.string b) ∧ w9.cell? ⟨Q + 1, 1, none⟩ = some (.string q) ∧ w9.cell? ⟨Q + 1, 2, none⟩ = some (.bool true))) (by kernel_rfl) (HC.out _ KD.out) (fun _ => ?_)
            generalize wz.drew = Wd at KD ⊢
            refine wpAnyH_take (i := 0) (v := .agg #[.string a, .string p, .bool d1]) rfl (by kernel_rfl) (by kernel_rfl) (by kernel_rfl) (fun _ _ _ h => h) (Or.inl ⟨by simp [Region.wanted, yielded], fun W hW => by obtain ⟨⟨s0, s1, s2⟩, s3, s4, s5⟩ := hW; go_simp⟩) (HC.out _ KD.out) ?_
            try (simp only [Act.put, List.getElem_toArray, List.getElem_cons_succ, List.getElem_cons_zero, List.setIfInBounds_toArray, List.set_cons_zero, List.set_cons_succ])
            refine wpAnyH_take (i := 1) (v := .pointer (some ⟨Q + 1, 0, none⟩)) rfl (by kernel_rfl) (by kernel_rfl) (by kernel_rfl) (fun _ _ _ h => h) (Or.inl ⟨by simp [Region.wanted, yielded], fun W hW => by obtain ⟨⟨s0, s1, s2⟩, s3, s4, s5⟩ := hW; go_simp⟩) (HC.out _ KD.out) ?_
            try (simp only [Act.put, List.getElem_toArray, List.getElem_cons_succ, List.getElem_cons_zero, List.setIfInBounds_toArray, List.set_cons_zero, List.set_cons_succ])
            refine wpAnyH_take (i := 2) (v := .string b) rfl (by kernel_rfl) (by kernel_rfl) (by kernel_rfl) (fun _ _ _ h => h) (Or.inl ⟨by simp [Region.wanted, yielded], fun W hW => by obtain ⟨⟨s0, s1, s2⟩, s3, s4, s5⟩ := hW; go_simp⟩) (HC.out _ KD.out) ?_
            try (simp only [Act.put, List.getElem_toArray, List.getElem_cons_succ, List.getElem_cons_zero, List.setIfInBounds_toArray, List.set_cons_zero, List.set_cons_succ])
            refine wpAnyH_take (i := 4) (v := vl) rfl (by kernel_rfl) (by kernel_rfl) (by kernel_rfl) (fun _ _ _ h => h) (Or.inl ⟨by simp [Region.wanted, yielded], fun W hW => by obtain ⟨⟨s0, s1, s2⟩, s3, s4, s5⟩ := hW; go_simp⟩) (HC.out _ KD.out) ?_
            try (simp only [Act.put, List.getElem_toArray, List.getElem_cons_succ, List.getElem_cons_zero, List.setIfInBounds_toArray, List.set_cons_zero, List.set_cons_succ])
            refine wpAnyH_ready (rs := [3, 6]) (by kernel_rfl) (by simp) ?_
            refine AllReadyH.cons (o := _) rfl (fun KK hKK => ?_) (AllReadyH.cons (o := _) rfl (fun KK hKK => ?_) AllReadyH.nil)
            · rw [if_pos (by simp [Region.wanted, yielded])]
              go_simp
              have hk18 := Kept.alloc (fun _ => False) Wd (.cells #[] 9)
              have E18 := Lib.hid (owns_newS Wd)
              have K18 := Lib.hid (KD.out.then hk18)
              have B18 : wz.heap.size ≤ Wd.heap.size := KD.out.size
              refine hKK.out _ _ (HC.out _ K18.out) (fun _ => ?_)
              clear hKK KK
              try (simp only [Act.put, List.getElem_toArray, List.getElem_cons_succ, List.getElem_cons_zero, List.setIfInBounds_toArray, List.set_cons_zero, List.set_cons_succ])
              generalize hg18 : Wd.alloc (.cells #[] 9) = Wx18 at E18 K18  ⊢
              clear hk18 hg18
              generalize hb18 : Wd.heap.size = gb18 at E18 B18 ⊢
              have EL18 := Lib.hid (E18.out.low B18)
              clear hb18
              refine wpAnyH_ready (rs := [5, 6]) (by kernel_rfl) (by simp) ?_
              refine AllReadyH.cons (o := _) rfl (fun KK hKK => ?_) (AllReadyH.cons (o := _) rfl (fun KK hKK => ?_) AllReadyH.nil)
              · refine step_append_strsG (by simp [Region.wanted, yielded]) _ _ (by rfl) (by rfl) wz.heap.size (.slice (some ⟨gb18, 0, none⟩) 0 0) (vl) ([]) l (by rfl) (by rfl) EL18.out (HLS.out _ K18.out) (by have := HLL.out; simp; omega) (by have := K18.out.size; omega) ?_
                intro a19 c19 w19 ho19 hk19
                generalize ([] ++ l).length = L19 at ho19 ⊢
                have E19 := Lib.hid ho19
                have K19 := Lib.hid (K18.out.trans hk19 (T := fun _ => False) (fun _ _ h => h) (fun i hi e => by have := EL18.out.lt i e; omega))
                clear ho19 hk19
                refine hKK.out _ _ (HC.out _ K19.out) (fun _ => ?_)
                clear hKK KK
                try (simp only [Act.put, List.getElem_toArray, List.getElem_cons_succ, List.getElem_cons_zero, List.setIfInBounds_toArray, List.set_cons_zero, List.set_cons_succ])
                refine wpAnyH_ready (rs := [6]) (by kernel_rfl) (by simp) ?_
                refine AllReadyH.cons (o := _) rfl (fun KK hKK => ?_) AllReadyH.nil
                rw [if_pos (by simp [Region.wanted, yielded])]
                go_simp
                have hk20 := Kept.alloc (fun _ => False) w19 (.cells #[.string (⟨#[48, 45, 102, 114, 101, 115, 104, 46, 110, 97, 109, 101]⟩ : ByteArray)] 9)
                have P20 := Lib.hid (strs_new w19 #[.string (⟨#[48, 45, 102, 114, 101, 115, 104, 46, 110, 97, 109, 101]⟩ : ByteArray)] 9 1 [(⟨#[48, 45, 102, 114, 101, 115, 104, 46, 110, 97, 109, 101]⟩ : ByteArray)] rfl rfl (by unfold maxLen; omega))
                have K20 := Lib.hid (K19.out.then hk20)
                have E20 := Lib.hid (E19.out.kept hk20 (fun _ _ h => h))
                refine hKK.out _ _ (HC.out _ K20.out) (fun _ => ?_)
                clear hKK KK
                try (simp only [Act.put, List.getElem_toArray, List.getElem_cons_succ, List.getElem_cons_zero, List.setIfInBounds_toArray, List.set_cons_zero, List.set_cons_succ])
                generalize hg20 : w19.alloc (.cells #[.string (⟨#[48, 45, 102, 114, 101, 115, 104, 46, 110, 97, 109, 101]⟩ : ByteArray)] 9) = Wx20 at P20 K20 E20 ⊢
                clear hk20 hg20
                generalize hb20 : w19.heap.size = gb20 at P20 ⊢
                clear hb20
                refine wpAnyH_ready (rs := [7]) (by kernel_rfl) (by simp) ?_
                refine AllReadyH.cons (o := _) rfl (fun KK hKK => ?_) AllReadyH.nil
                refine step_append_strsG (by simp [Region.wanted, yielded]) _ _ (by rfl) (by rfl) wz.heap.size (.slice a19 L19 c19) (.slice (some ⟨gb20, 0, none⟩) 1 1) (([] ++ l)) [(⟨#[48, 45, 102, 114, 101, 115, 104, 46, 110, 97, 109, 101]⟩ : ByteArray)] (by rfl) (by rfl) E20.out P20.out (by have := HLL.out; simp; omega) (by have := K20.out.size; omega) ?_
                intro a21 c21 w21 ho21 hk21
                generalize (([] ++ l) ++ [(⟨#[48, 45, 102, 114, 101, 115, 104, 46, 110, 97, 109, 101]⟩ : ByteArray)]).length = L21 at ho21 ⊢
                have E21 := Lib.hid ho21
                have K21 := Lib.hid (K20.out.trans hk21 (T := fun _ => False) (fun _ _ h => h) (fun i hi e => by have := E20.out.lt i e; omega))
                clear ho21 hk21
                refine hKK.out _ _ (HC.out _ K21.out) (fun _ => ?_)
                clear hKK KK
                try (simp only [Act.put, List.getElem_toArray, List.getElem_cons_succ, List.getElem_cons_zero, List.setIfInBounds_toArray, List.set_cons_zero, List.set_cons_succ])
                refine wpAnyH_ready (rs := [8]) (by kernel_rfl) (by simp) ?_
                refine AllReadyH.cons (o := _) rfl (fun KK hKK => ?_) AllReadyH.nil
                go_simp
                go_at_call 28
                refine (HJ.out _ _ (Strs.ofOwn E21.out)).mono ?_
                rintro e wj22 ⟨rfl, rfl⟩
                try go_wp2_with fail
                refine hKK.out _ _ (HC.out _ K21.out) (fun _ => ?_)
                clear hKK KK
                try (simp only [Act.put, List.getElem_toArray, List.getElem_cons_succ, List.getElem_cons_zero, List.setIfInBounds_toArray, List.set_cons_zero, List.set_cons_succ])
                refine wpAnyH_ready (rs := [9]) (by kernel_rfl) (by simp) ?_
                refine AllReadyH.cons (o := _) rfl (fun KK hKK => ?_) AllReadyH.nil
                go_simp
                go_at_call 32
                refine (HCF.out _).mono ?_
                rintro e wc23 ⟨rfl, jc23⟩
                have K23 := Lib.hid (K21.out.then jc23)
                clear jc23
                try go_wp2_with fail
                refine hKK.out _ _ (HC.out _ K23.out) (fun _ => ?_)
                clear hKK KK
                try (simp only [Act.put, List.getElem_toArray, List.getElem_cons_succ, List.getElem_cons_zero, List.setIfInBounds_toArray, List.set_cons_zero, List.set_cons_succ])
                refine wpAnyH_take (i := 10) (v := .bool true) rfl (by kernel_rfl) (by kernel_rfl) (by kernel_rfl) (fun _ _ _ h => h) (Or.inl ⟨by simp [Region.wanted, yielded], fun W hW => by obtain ⟨⟨s0, s1, s2⟩, s3, s4, s5⟩ := hW; go_simp⟩) (HC.out _ K23.out) ?_
                try (simp only [Act.put, List.getElem_toArray, List.getElem_cons_succ, List.getElem_cons_zero, List.setIfInBounds_toArray, List.set_cons_zero, List.set_cons_succ])
                refine wpAnyH_take (i := 11) (v := .pointer (some ⟨Q, 1, none⟩)) rfl (by kernel_rfl) (by kernel_rfl) (by kernel_rfl) (fun _ _ _ h => h) (Or.inl ⟨by simp [Region.wanted, yielded], fun W hW => by obtain ⟨⟨s0, s1, s2⟩, s3, s4, s5⟩ := hW; go_simp⟩) (HC.out _ K23.out) ?_
                try (simp only [Act.put, List.getElem_toArray, List.getElem_cons_succ, List.getElem_cons_zero, List.setIfInBounds_toArray, List.set_cons_zero, List.set_cons_succ])
                refine wpAnyH_take (i := 12) (v := .string p) rfl (by kernel_rfl) (by kernel_rfl) (by kernel_rfl) (fun _ _ _ h => h) (Or.inl ⟨by simp [Region.wanted, yielded], fun W hW => by obtain ⟨⟨s0, s1, s2⟩, s3, s4, s5⟩ := hW; go_simp⟩) (HC.out _ K23.out) ?_
                try (simp only [Act.put, List.getElem_toArray, List.getElem_cons_succ, List.getElem_cons_zero, List.setIfInBounds_toArray, List.set_cons_zero, List.set_cons_succ])
                refine wpAnyH_take (i := 14) (v := vl) rfl (by kernel_rfl) (by kernel_rfl) (by kernel_rfl) (fun _ _ _ h => h) (Or.inl ⟨by simp [Region.wanted, yielded], fun W hW => by obtain ⟨⟨s0, s1, s2⟩, s3, s4, s5⟩ := hW; go_simp⟩) (HC.out _ K23.out) ?_
                try (simp only [Act.put, List.getElem_toArray, List.getElem_cons_succ, List.getElem_cons_zero, List.setIfInBounds_toArray, List.set_cons_zero, List.set_cons_succ])
                refine wpAnyH_ready (rs := [13, 16]) (by kernel_rfl) (by simp) ?_
                refine AllReadyH.cons (o := _) rfl (fun KK hKK => ?_) (AllReadyH.cons (o := _) rfl (fun KK hKK => ?_) AllReadyH.nil)
                · rw [if_pos (by simp [Region.wanted, yielded])]
                  go_simp
                  have hk24 := Kept.alloc (fun _ => False) wc23 (.cells #[] 9)
                  have E24 := Lib.hid (owns_newS wc23)
                  have K24 := Lib.hid (K23.out.then hk24)
                  have B24 : wz.heap.size ≤ wc23.heap.size := K23.out.size
                  refine hKK.out _ _ (HC.out _ K24.out) (fun _ => ?_)
                  clear hKK KK
                  try (simp only [Act.put, List.getElem_toArray, List.getElem_cons_succ, List.getElem_cons_zero, List.setIfInBounds_toArray, List.set_cons_zero, List.set_cons_succ])
                  generalize hg24 : wc23.alloc (.cells #[] 9) = Wx24 at E24 K24  ⊢
                  clear hk24 hg24
                  generalize hb24 : wc23.heap.size = gb24 at E24 B24 ⊢
                  have EL24 := Lib.hid (E24.out.low B24)
                  clear hb24
                  refine wpAnyH_ready (rs := [15, 16]) (by kernel_rfl) (by simp) ?_
                  refine AllReadyH.cons (o := _) rfl (fun KK hKK => ?_) (AllReadyH.cons (o := _) rfl (fun KK hKK => ?_) AllReadyH.nil)
                  · refine step_append_strsG (by simp [Region.wanted, yielded]) _ _ (by rfl) (by rfl) wz.heap.size (.slice (some ⟨gb24, 0, none⟩) 0 0) (vl) ([]) l (by rfl) (by rfl) EL24.out (HLS.out _ K24.out) (by have := HLL.out; simp; omega) (by have := K24.out.size; omega) ?_
                    intro a25 c25 w25 ho25 hk25
                    generalize ([] ++ l).length = L25 at ho25 ⊢
                    have E25 := Lib.hid ho25
                    have K25 := Lib.hid (K24.out.trans hk25 (T := fun _ => False) (fun _ _ h => h) (fun i hi e => by have := EL24.out.lt i e; omega))
                    clear ho25 hk25
                    refine hKK.out _ _ (HC.out _ K25.out) (fun _ => ?_)
                    clear hKK KK
                    try (simp only [Act.put, List.getElem_toArray, List.getElem_cons_succ, List.getElem_cons_zero, List.setIfInBounds_toArray, List.set_cons_zero, List.set_cons_succ])
                    refine wpAnyH_ready (rs := [16]) (by kernel_rfl) (by simp) ?_
                    refine AllReadyH.cons (o := _) rfl (fun KK hKK => ?_) AllReadyH.nil
                    rw [if_pos (by simp [Region.wanted, yielded])]
                    go_simp
                    have hk26 := Kept.alloc (fun _ => False) w25 (.cells #[.string (⟨#[48, 45, 102, 114, 101, 115, 104, 46, 110, 97, 109, 101]⟩ : ByteArray)] 9)
                    have P26 := Lib.hid (strs_new w25 #[.string (⟨#[48, 45, 102, 114, 101, 115, 104, 46, 110, 97, 109, 101]⟩ : ByteArray)] 9 1 [(⟨#[48, 45, 102, 114, 101, 115, 104, 46, 110, 97, 109, 101]⟩ : ByteArray)] rfl rfl (by unfold maxLen; omega))
                    have K26 := Lib.hid (K25.out.then hk26)
                    have E26 := Lib.hid (E25.out.kept hk26 (fun _ _ h => h))
                    refine hKK.out _ _ (HC.out _ K26.out) (fun _ => ?_)
                    clear hKK KK
                    try (simp only [Act.put, List.getElem_toArray, List.getElem_cons_succ, List.getElem_cons_zero, List.setIfInBounds_toArray, List.set_cons_zero, List.set_cons_succ])
                    generalize hg26 : w25.alloc (.cells #[.string (⟨#[48, 45, 102, 114, 101, 115, 104, 46, 110, 97, 109, 101]⟩ : ByteArray)] 9) = Wx26 at P26 K26 E26 ⊢
                    clear hk26 hg26
                    generalize hb26 : w25.heap.size = gb26 at P26 ⊢
                    clear hb26
                    refine wpAnyH_ready (rs := [17]) (by kernel_rfl) (by simp) ?_
                    refine AllReadyH.cons (o := _) rfl (fun KK hKK => ?_) AllReadyH.nil
                    refine step_append_strsG (by simp [Region.wanted, yielded]) _ _ (by rfl) (by rfl) wz.heap.size (.slice a25 L25 c25) (.slice (some ⟨gb26, 0, none⟩) 1 1) (([] ++ l)) [(⟨#[48, 45, 102, 114, 101, 115, 104, 46, 110, 97, 109, 101]⟩ : ByteArray)] (by rfl) (by rfl) E26.out P26.out (by have := HLL.out; simp; omega) (by have := K26.out.size; omega) ?_
                    intro a27 c27 w27 ho27 hk27
                    generalize (([] ++ l) ++ [(⟨#[48, 45, 102, 114, 101, 115, 104, 46, 110, 97, 109, 101]⟩ : ByteArray)]).length = L27 at ho27 ⊢
                    have E27 := Lib.hid ho27
                    have K27 := Lib.hid (K26.out.trans hk27 (T := fun _ => False) (fun _ _ h => h) (fun i hi e => by have := E26.out.lt i e; omega))
                    clear ho27 hk27
                    refine hKK.out _ _ (HC.out _ K27.out) (fun _ => ?_)
                    clear hKK KK
                    try (simp only [Act.put, List.getElem_toArray, List.getElem_cons_succ, List.getElem_cons_zero, List.setIfInBounds_toArray, List.set_cons_zero, List.set_cons_succ])
                    refine wpAnyH_ready (rs := [18]) (by kernel_rfl) (by simp) ?_
                    refine AllReadyH.cons (o := _) rfl (fun KK hKK => ?_) AllReadyH.nil
                    go_simp
                    go_at_call 28
                    refine (HJ.out _ _ (Strs.ofOwn E27.out)).mono ?_
                    rintro e wj28 ⟨rfl, rfl⟩
                    try go_wp2_with fail
                    refine hKK.out _ _ (HC.out _ K27.out) (fun _ => ?_)
                    clear hKK KK
                    try (simp only [Act.put, List.getElem_toArray, List.getElem_cons_succ, List.getElem_cons_zero, List.setIfInBounds_toArray, List.set_cons_zero, List.set_cons_succ])
                    refine wpAnyH_take (i := 19) (v := .bool (!N)) rfl (by kernel_rfl) (by kernel_rfl) (by kernel_rfl) (fun _ _ _ h => h) (Or.inl ⟨by simp [Region.wanted, yielded], fun W hW => by obtain ⟨⟨s0, s1, s2⟩, s3, s4, s5⟩ := hW; go_simp⟩) (HC.out _ K27.out) ?_
                    try (simp only [Act.put, List.getElem_toArray, List.getElem_cons_succ, List.getElem_cons_zero, List.setIfInBounds_toArray, List.set_cons_zero, List.set_cons_succ])
                    refine wpAnyH_take (i := 20) (v := .bool (!N)) rfl (by kernel_rfl) (by kernel_rfl) (by kernel_rfl) (fun _ _ _ h => h) (Or.inl ⟨by simp [Region.wanted, yielded], fun W hW => by obtain ⟨⟨s0, s1, s2⟩, s3, s4, s5⟩ := hW; go_simp⟩) (HC.out _ K27.out) ?_
                    try (simp only [Act.put, List.getElem_toArray, List.getElem_cons_succ, List.getElem_cons_zero, List.setIfInBounds_toArray, List.set_cons_zero, List.set_cons_succ])
                    refine wpAnyH_take (i := 21) (v := .bool (!N)) rfl (by kernel_rfl) (by kernel_rfl) (by kernel_rfl) (fun _ _ _ h => h) (Or.inl ⟨by simp [Region.wanted, yielded], fun W hW => by obtain ⟨⟨s0, s1, s2⟩, s3, s4, s5⟩ := hW; go_simp⟩) (HC.out _ K27.out) ?_
                    try (simp only [Act.put, List.getElem_toArray, List.getElem_cons_succ, List.getElem_cons_zero, List.setIfInBounds_toArray, List.set_cons_zero, List.set_cons_succ])
                    refine wpAnyH_done (by kernel_rfl) ?_ _
                    have KF := Lib.hid (K5.out.then K27.out)
                    clear HC HJ HCF HLS HLL
                    go_wp2_with fail
                    go_ret
                    exact ⟨rfl, KF.out⟩
                  · rw [if_pos (by simp [Region.wanted, yielded])]
                    go_simp
                    have hk29 := Kept.alloc (fun _ => False) Wx24 (.cells #[.string (⟨#[48, 45, 102, 114, 101, 115, 104, 46, 110, 97, 109, 101]⟩ : ByteArray)] 9)
                    have P29 := Lib.hid (strs_new Wx24 #[.string (⟨#[48, 45, 102, 114, 101, 115, 104, 46, 110, 97, 109, 101]⟩ : ByteArray)] 9 1 [(⟨#[48, 45, 102, 114, 101, 115, 104, 46, 110, 97, 109, 101]⟩ : ByteArray)] rfl rfl (by unfold maxLen; omega))
                    have K29 := Lib.hid (K24.out.then hk29)
                    have E29 := Lib.hid (EL24.out.kept hk29 (fun _ _ h => h))
                    have hne29 : Wx24.heap.size ≠ gb24 := by have := (EL24.out.bound gb24 rfl).2; omega
                    refine hKK.out _ _ (HC.out _ K29.out) (fun _ => ?_)
                    clear hKK KK
                    try (simp only [Act.put, List.getElem_toArray, List.getElem_cons_succ, List.getElem_cons_zero, List.setIfInBounds_toArray, List.set_cons_zero, List.set_cons_succ])
                    generalize hg29 : Wx24.alloc (.cells #[.string (⟨#[48, 45, 102, 114, 101, 115, 104, 46, 110, 97, 109, 101]⟩ : ByteArray)] 9) = Wx29 at P29 K29 E29 ⊢
                    clear hk29 hg29
                    generalize hb29 : Wx24.heap.size = gb29 at P29 hne29 ⊢
                    clear hb29
                    refine wpAnyH_ready (rs := [15]) (by kernel_rfl) (by simp) ?_
                    refine AllReadyH.cons (o := _) rfl (fun KK hKK => ?_) AllReadyH.nil
                    refine step_append_strsG (by simp [Region.wanted, yielded]) _ _ (by rfl) (by rfl) wz.heap.size (.slice (some ⟨gb24, 0, none⟩) 0 0) (vl) ([]) l (by rfl) (by rfl) E29.out (HLS.out _ K29.out) (by have := HLL.out; simp; omega) (by have := K29.out.size; omega) ?_
                    intro a30 c30 w30 ho30 hk30
                    generalize ([] ++ l).length = L30 at ho30 ⊢
                    have E30 := Lib.hid ho30
                    have K30 := Lib.hid (K29.out.trans hk30 (T := fun _ => False) (fun _ _ h => h) (fun i hi e => by have := E29.out.lt i e; omega))
                    have P30 := Lib.hid (P29.out.kept hk30 (fun j hj e => by simp [Value.ownBlock] at e hj; omega))
                    clear ho30 hk30
                    refine hKK.out _ _ (HC.out _ K30.out) (fun _ => ?_)
                    clear hKK KK
                    try (simp only [Act.put, List.getElem_toArray, List.getElem_cons_succ, List.getElem_cons_zero, List.setIfInBounds_toArray, List.set_cons_zero, List.set_cons_succ])
                    refine wpAnyH_ready (rs := [17]) (by kernel_rfl) (by simp) ?_
                    refine AllReadyH.cons (o := _) rfl (fun KK hKK => ?_) AllReadyH.nil
                    refine step_append_strsG (by simp [Region.wanted, yielded]) _ _ (by rfl) (by rfl) wz.heap.size (.slice a30 L30 c30) (.slice (some ⟨gb29, 0, none⟩) 1 1) (([] ++ l)) [(⟨#[48, 45, 102, 114, 101, 115, 104, 46, 110, 97, 109, 101]⟩ : ByteArray)] (by rfl) (by rfl) E30.out P30.out (by have := HLL.out; simp; omega) (by have := K30.out.size; omega) ?_
                    intro a31 c31 w31 ho31 hk31
                    generalize (([] ++ l) ++ [(⟨#[48, 45, 102, 114, 101, 115, 104, 46, 110, 97, 109, 101]⟩ : ByteArray)]).length = L31 at ho31 ⊢
                    have E31 := Lib.hid ho31
                    have K31 := Lib.hid (K30.out.trans hk31 (T := fun _ => False) (fun _ _ h => h) (fun i hi e => by have := E30.out.lt i e; omega))
                    clear ho31 hk31
                    refine hKK.out _ _ (HC.out _ K31.out) (fun _ => ?_)
                    clear hKK KK
                    try (simp only [Act.put, List.getElem_toArray, List.getElem_cons_succ, List.getElem_cons_zero, List.setIfInBounds_toArray, List.set_cons_zero, List.set_cons_succ])
                    refine wpAnyH_ready (rs := [18]) (by kernel_rfl) (by simp) ?_
                    refine AllReadyH.cons (o := _) rfl (fun KK hKK => ?_) AllReadyH.nil
                    go_simp
                    go_at_call 28
                    refine (HJ.out _ _ (Strs.ofOwn E31.out)).mono ?_
                    rintro e wj32 ⟨rfl, rfl⟩
                    try go_wp2_with fail
                    refine hKK.out _ _ (HC.out _ K31.out) (fun _ => ?_)
                    clear hKK KK
                    try (simp only [Act.put, List.getElem_toArray, List.getElem_cons_succ, List.getElem_cons_zero, List.setIfInBounds_toArray, List.set_cons_zero, List.set_cons_succ])
                    refine wpAnyH_take (i := 19) (v := .bool (!N)) rfl (by kernel_rfl) (by kernel_rfl) (by kernel_rfl) (fun _ _ _ h => h) (Or.inl ⟨by simp [Region.wanted, yielded], fun W hW => by obtain ⟨⟨s0, s1, s2⟩, s3, s4, s5⟩ := hW; go_simp⟩) (HC.out _ K31.out) ?_
                    try (simp only [Act.put, List.getElem_toArray, List.getElem_cons_succ, List.getElem_cons_zero, List.setIfInBounds_toArray, List.set_cons_zero, List.set_cons_succ])
                    refine wpAnyH_take (i := 20) (v := .bool (!N)) rfl (by kernel_rfl) (by kernel_rfl) (by kernel_rfl) (fun _ _ _ h => h) (Or.inl ⟨by simp [Region.wanted, yielded], fun W hW => by obtain ⟨⟨s0, s1, s2⟩, s3, s4, s5⟩ := hW; go_simp⟩) (HC.out _ K31.out) ?_
                    try (simp only [Act.put, List.getElem_toArray, List.getElem_cons_succ, List.getElem_cons_zero, List.setIfInBounds_toArray, List.set_cons_zero, List.set_cons_succ])
                    refine wpAnyH_take (i := 21) (v := .bool (!N)) rfl (by kernel_rfl) (by kernel_rfl) (by kernel_rfl) (fun _ _ _ h => h) (Or.inl ⟨by simp [Region.wanted, yielded], fun W hW => by obtain ⟨⟨s0, s1, s2⟩, s3, s4, s5⟩ := hW; go_simp⟩) (HC.out _ K31.out) ?_
                    try (simp only [Act.put, List.getElem_toArray, List.getElem_cons_succ, List.getElem_cons_zero, List.setIfInBounds_toArray, List.set_cons_zero, List.set_cons_succ])
                    refine wpAnyH_done (by kernel_rfl) ?_ _
                    have KF := Lib.hid (K5.out.then K31.out)
                    clear HC HJ HCF HLS HLL
                    go_wp2_with fail
                    go_ret
                    exact ⟨rfl, KF.out⟩
                · rw [if_pos (by simp [Region.wanted, yielded])]
                  go_simp
                  have hk33 := Kept.alloc (fun _ => False) wc23 (.cells #[.string (⟨#[48, 45, 102, 114, 101, 115, 104, 46, 110, 97, 109, 101]⟩ : ByteArray)] 9)
                  have P33 := Lib.hid (strs_new wc23 #[.string (⟨#[48, 45, 102, 114, 101, 115, 104, 46, 110, 97, 109, 101]⟩ : ByteArray)] 9 1 [(⟨#[48, 45, 102, 114, 101, 115, 104, 46, 110, 97, 109, 101]⟩ : ByteArray)] rfl rfl (by unfold maxLen; omega))
                  have K33 := Lib.hid (K23.out.then hk33)
                  refine hKK.out _ _ (HC.out _ K33.out) (fun _ => ?_)
                  clear hKK KK
                  try (simp only [Act.put, List.getElem_toArray, List.getElem_cons_succ, List.getElem_cons_zero, List.setIfInBounds_toArray, List.set_cons_zero, List.set_cons_succ])
                  generalize hg33 : wc23.alloc (.cells #[.string (⟨#[48, 45, 102, 114, 101, 115, 104, 46, 110, 97, 109, 101]⟩ : ByteArray)] 9) = Wx33 at P33 K33  ⊢
                  clear hk33 hg33
                  generalize hb33 : wc23.heap.size = gb33 at P33 ⊢
                  clear hb33
                  refine wpAnyH_ready (rs := [13]) (by kernel_rfl) (by simp) ?_
                  refine AllReadyH.cons (o := _) rfl (fun KK hKK => ?_) AllReadyH.nil
                  rw [if_pos (by simp [Region.wanted, yielded])]
                  go_simp
                  have hk34 := Kept.alloc (fun _ => False) Wx33 (.cells #[] 9)
                  have E34 := Lib.hid (owns_newS Wx33)
                  have K34 := Lib.hid (K33.out.then hk34)
                  have B34 : wz.heap.size ≤ Wx33.heap.size := K33.out.size
                  have P34 := Lib.hid (P33.out.kept hk34 (fun _ _ h => h))
                  have hne34 : gb33 ≠ Wx33.heap.size := by
                    obtain ⟨g9, o9, e9, hl9, _⟩ := P33.out.at (k := 0) (by simp)
                    cases e9
                    omega
                  refine hKK.out _ _ (HC.out _ K34.out) (fun _ => ?_)
                  clear hKK KK
                  try (simp only [Act.put, List.getElem_toArray, List.getElem_cons_succ, List.getElem_cons_zero, List.setIfInBounds_toArray, List.set_cons_zero, List.set_cons_succ])
                  generalize hg34 : Wx33.alloc (.cells #[] 9) = Wx34 at E34 K34 P34 ⊢
                  clear hk34 hg34
                  generalize hb34 : Wx33.heap.size = gb34 at E34 B34 hne34 ⊢
                  have EL34 := Lib.hid (E34.out.low B34)
                  clear hb34
                  refine wpAnyH_ready (rs := [15]) (by kernel_rfl) (by simp) ?_
                  refine AllReadyH.cons (o := _) rfl (fun KK hKK => ?_) AllReadyH.nil
                  refine step_append_strsG (by simp [Region.wanted, yielded]) _ _ (by rfl) (by rfl) wz.heap.size (.slice (some ⟨gb34, 0, none⟩) 0 0) (vl) ([]) l (by rfl) (by rfl) EL34.out (HLS.out _ K34.out) (by have := HLL.out; simp; omega) (by have := K34.out.size; omega) ?_
                  intro a35 c35 w35 ho35 hk35
                  generalize ([] ++ l).length = L35 at ho35 ⊢
                  have E35 := Lib.hid ho35
                  have K35 := Lib.hid (K34.out.trans hk35 (T := fun _ => False) (fun _ _ h => h) (fun i hi e => by have := EL34.out.lt i e; omega))
                  have P35 := Lib.hid (P34.out.kept hk35 (fun j hj e => by simp [Value.ownBlock] at e hj; omega))
                  clear ho35 hk35
                  refine hKK.out _ _ (HC.out _ K35.out) (fun _ => ?_)
                  clear hKK KK
                  try (simp only [Act.put, List.getElem_toArray, List.getElem_cons_succ, List.getElem_cons_zero, List.setIfInBounds_toArray, List.set_cons_zero, List.set_cons_succ])
                  refine wpAnyH_ready (rs := [17]) (by kernel_rfl) (by simp) ?_
                  refine AllReadyH.cons (o := _) rfl (fun KK hKK => ?_) AllReadyH.nil
                  refine step_append_strsG (by simp [Region.wanted, yielded]) _ _ (by rfl) (by rfl) wz.heap.size (.slice a35 L35 c35) (.slice (some ⟨gb33, 0, none⟩) 1 1) (([] ++ l)) [(⟨#[48, 45, 102, 114, 101, 115, 104, 46, 110, 97, 109, 101]⟩ : ByteArray)] (by rfl) (by rfl) E35.out P35.out (by have := HLL.out; simp; omega) (by have := K35.out.size; omega) ?_
                  intro a36 c36 w36 ho36 hk36
                  generalize (([] ++ l) ++ [(⟨#[48, 45, 102, 114, 101, 115, 104, 46, 110, 97, 109, 101]⟩ : ByteArray)]).length = L36 at ho36 ⊢
                  have E36 := Lib.hid ho36
                  have K36 := Lib.hid (K35.out.trans hk36 (T := fun _ => False) (fun _ _ h => h) (fun i hi e => by have := E35.out.lt i e; omega))
                  clear ho36 hk36
                  refine hKK.out _ _ (HC.out _ K36.out) (fun _ => ?_)
                  clear hKK KK
                  try (simp only [Act.put, List.getElem_toArray, List.getElem_cons_succ, List.getElem_cons_zero, List.setIfInBounds_toArray, List.set_cons_zero, List.set_cons_succ])
                  refine wpAnyH_ready (rs := [18]) (by kernel_rfl) (by simp) ?_
                  refine AllReadyH.cons (o := _) rfl (fun KK hKK => ?_) AllReadyH.nil
                  go_simp
                  go_at_call 28
                  refine (HJ.out _ _ (Strs.ofOwn E36.out)).mono ?_
                  rintro e wj37 ⟨rfl, rfl⟩
                  try go_wp2_with fail
                  refine hKK.out _ _ (HC.out _ K36.out) (fun _ => ?_)
                  clear hKK KK
                  try (simp only [Act.put, List.getElem_toArray, List.getElem_cons_succ, List.getElem_cons_zero, List.setIfInBounds_toArray, List.set_cons_zero, List.set_cons_succ])
                  refine wpAnyH_take (i := 19) (v := .bool (!N)) rfl (by kernel_rfl) (by kernel_rfl) (by kernel_rfl) (fun _ _ _ h => h) (Or.inl ⟨by simp [Region.wanted, yielded], fun W hW => by obtain ⟨⟨s0, s1, s2⟩, s3, s4, s5⟩ := hW; go_simp⟩) (HC.out _ K36.out) ?_
                  try (simp only [Act.put, List.getElem_toArray, List.getElem_cons_succ, List.getElem_cons_zero, List.setIfInBounds_toArray, List.set_cons_zero, List.set_cons_succ])
                  refine wpAnyH_take (i := 20) (v := .bool (!N)) rfl (by kernel_rfl) (by kernel_rfl) (by kernel_rfl) (fun _ _ _ h => h) (Or.inl ⟨by simp [Region.wanted, yielded], fun W hW => by obtain ⟨⟨s0, s1, s2⟩, s3, s4, s5⟩ := hW; go_simp⟩) (HC.out _ K36.out) ?_
                  try (simp only [Act.put, List.getElem_toArray, List.getElem_cons_succ, List.getElem_cons_zero, List.setIfInBounds_toArray, List.set_cons_zero, List.set_cons_succ])
                  refine wpAnyH_take (i := 21) (v := .bool (!N)) rfl (by kernel_rfl) (by kernel_rfl) (by kernel_rfl) (fun _ _ _ h => h) (Or.inl ⟨by simp [Region.wanted, yielded], fun W hW => by obtain ⟨⟨s0, s1, s2⟩, s3, s4, s5⟩ := hW; go_simp⟩) (HC.out _ K36.out) ?_
                  try (simp only [Act.put, List.getElem_toArray, List.getElem_cons_succ, List.getElem_cons_zero, List.setIfInBounds_toArray, List.set_cons_zero, List.set_cons_succ])
                  refine wpAnyH_done (by kernel_rfl) ?_ _
                  have KF := Lib.hid (K5.out.then K36.out)
                  clear HC HJ HCF HLS HLL
                  go_wp2_with fail
                  go_ret
                  exact ⟨rfl, KF.out⟩
              · rw [if_pos (by simp [Region.wanted, yielded])]
                go_simp
                have hk38 := Kept.alloc (fun _ => False) Wx18 (.cells #[.string (⟨#[48, 45, 102, 114, 101, 115, 104, 46, 110, 97, 109, 101]⟩ : ByteArray)] 9)
                have P38 := Lib.hid (strs_new Wx18 #[.string (⟨#[48, 45, 102, 114, 101, 115, 104, 46, 110, 97, 109, 101]⟩ : ByteArray)] 9 1 [(⟨#[48, 45, 102, 114, 101, 115, 104, 46, 110, 97, 109, 101]⟩ : ByteArray)] rfl rfl (by unfold maxLen; omega))
                have K38 := Lib.hid (K18.out.then hk38)
                have E38 := Lib.hid (EL18.out.kept hk38 (fun _ _ h => h))
                have hne38 : Wx18.heap.size ≠ gb18 := by have := (EL18.out.bound gb18 rfl).2; omega
                refine hKK.out _ _ (HC.out _ K38.out) (fun _ => ?_)
                clear hKK KK
                try (simp only [Act.put, List.getElem_toArray, List.getElem_cons_succ, List.getElem_cons_zero, List.setIfInBounds_toArray, List.set_cons_zero, List.set_cons_succ])
                generalize hg38 : Wx18.alloc (.cells #[.string (⟨#[48, 45, 102, 114, 101, 115, 104, 46, 110, 97, 109, 101]⟩ : ByteArray)] 9) = Wx38 at P38 K38 E38 ⊢
                clear hk38 hg38
                generalize hb38 : Wx18.heap.size = gb38 at P38 hne38 ⊢
                clear hb38
                refine wpAnyH_ready (rs := [5]) (by kernel_rfl) (by simp) ?_
                refine AllReadyH.cons (o := _) rfl (fun KK hKK => ?_) AllReadyH.nil
                refine step_append_strsG (by simp [Region.wanted, yielded]) _ _ (by rfl) (by rfl) wz.heap.size (.slice (some ⟨gb18, 0, none⟩) 0 0) (vl) ([]) l (by rfl) (by rfl) E38.out (HLS.out _ K38.out) (by have := HLL.out; simp; omega) (by have := K38.out.size; omega) ?_
                intro a39 c39 w39 ho39 hk39
                generalize ([] ++ l).length = L39 at ho39 ⊢
                have E39 := Lib.hid ho39
                have K39 := Lib.hid (K38.out.trans hk39 (T := fun _ => False) (fun _ _ h => h) (fun i hi e => by have := E38.out.lt i e; omega))
                have P39 := Lib.hid (P38.out.kept hk39 (fun j hj e => by simp [Value.ownBlock] at e hj; omega))
                clear ho39 hk39
                refine hKK.out _ _ (HC.out _ K39.out) (fun _ => ?_)
                clear hKK KK
                try (simp only [Act.put, List.getElem_toArray, List.getElem_cons_succ, List.getElem_cons_zero, List.setIfInBounds_toArray, List.set_cons_zero, List.set_cons_succ])
                refine wpAnyH_ready (rs := [7]) (by kernel_rfl) (by simp) ?_
                refine AllReadyH.cons (o := _) rfl (fun KK hKK => ?_) AllReadyH.nil
                refine step_append_strsG (by simp [Region.wanted, yielded]) _ _ (by rfl) (by rfl) wz.heap.size (.slice a39 L39 c39) (.slice (some ⟨gb38, 0, none⟩) 1 1) (([] ++ l)) [(⟨#[48, 45, 102, 114, 101, 115, 104, 46, 110, 97, 109, 101]⟩ : ByteArray)] (by rfl) (by rfl) E39.out P39.out (by have := HLL.out; simp; omega) (by have := K39.out.size; omega) ?_
                intro a40 c40 w40 ho40 hk40
                generalize (([] ++ l) ++ [(⟨#[48, 45, 102, 114, 101, 115, 104, 46, 110, 97, 109, 101]⟩ : ByteArray)]).length = L40 at ho40 ⊢
                have E40 := Lib.hid ho40
                have K40 := Lib.hid (K39.out.trans hk40 (T := fun _ => False) (fun _ _ h => h) (fun i hi e => by have := E39.out.lt i e; omega))
                clear ho40 hk40
                refine hKK.out _ _ (HC.out _ K40.out) (fun _ => ?_)
                clear hKK KK
                try (simp only [Act.put, List.getElem_toArray, List.getElem_cons_succ, List.getElem_cons_zero, List.setIfInBounds_toArray, List.set_cons_zero, List.set_cons_succ])
                refine wpAnyH_ready (rs := [8]) (by kernel_rfl) (by simp) ?_
                refine AllReadyH.cons (o := _) rfl (fun KK hKK => ?_) AllReadyH.nil
                go_simp
                go_at_call 28
                refine (HJ.out _ _ (Strs.ofOwn E40.out)).mono ?_
                rintro e wj41 ⟨rfl, rfl⟩
                try go_wp2_with fail
                refine hKK.out _ _ (HC.out _ K40.out) (fun _ => ?_)
                clear hKK KK
                try (simp only [Act.put, List.getElem_toArray, List.getElem_cons_succ, List.getElem_cons_zero, List.setIfInBounds_toArray, List.set_cons_zero, List.set_cons_succ])
                refine wpAnyH_ready (rs := [9]) (by kernel_rfl) (by simp) ?_
                refine AllReadyH.cons (o := _) rfl (fun KK hKK => ?_) AllReadyH.nil
                go_simp
                go_at_call 32
                refine (HCF.out _).mono ?_
                rintro e wc42 ⟨rfl, jc42⟩
                have K42 := Lib.hid (K40.out.then jc42)
                clear jc42
                try go_wp2_with fail
                refine hKK.out _ _ (HC.out _ K42.out) (fun _ => ?_)
                clear hKK KK
                try (simp only [Act.put, List.getElem_toArray, List.getElem_cons_succ, List.getElem_cons_zero, List.setIfInBounds_toArray, List.set_cons_zero, List.set_cons_succ])
                refine wpAnyH_take (i := 10) (v := .bool true) rfl (by kernel_rfl) (by kernel_rfl) (by kernel_rfl) (fun _ _ _ h => h) (Or.inl ⟨by simp [Region.wanted, yielded], fun W hW => by obtain ⟨⟨s0, s1, s2⟩, s3, s4, s5⟩ := hW; go_simp⟩) (HC.out _ K42.out) ?_
                try (simp only [Act.put, List.getElem_toArray, List.getElem_cons_succ, List.getElem_cons_zero, List.setIfInBounds_toArray, List.set_cons_zero, List.set_cons_succ])
                refine wpAnyH_take (i := 11) (v := .pointer (some ⟨Q, 1, none⟩)) rfl (by kernel_rfl) (by kernel_rfl) (by kernel_rfl) (fun _ _ _ h => h) (Or.inl ⟨by simp [Region.wanted, yielded], fun W hW => by obtain ⟨⟨s0, s1, s2⟩, s3, s4, s5⟩ := hW; go_simp⟩) (HC.out _ K42.out) ?_
                try (simp only [Act.put, List.getElem_toArray, List.getElem_cons_succ, List.getElem_cons_zero, List.setIfInBounds_toArray, List.set_cons_zero, List.set_cons_succ])
                refine wpAnyH_take (i := 12) (v := .string p) rfl (by kernel_rfl) (by kernel_rfl) (by kernel_rfl) (fun _ _ _ h => h) (Or.inl ⟨by simp [Region.wanted, yielded], fun W hW => by obtain ⟨⟨s0, s1, s2⟩, s3, s4, s5⟩ := hW; go_simp⟩) (HC.out _ K42.out) ?_
                try (simp only [Act.put, List.getElem_toArray, List.getElem_cons_succ, List.getElem_cons_zero, List.setIfInBounds_toArray, List.set_cons_zero, List.set_cons_succ])
                refine wpAnyH_take (i := 14) (v := vl) rfl (by kernel_rfl) (by kernel_rfl) (by kernel_rfl) (fun _ _ _ h => h) (Or.inl ⟨by simp [Region.wanted, yielded], fun W hW => by obtain ⟨⟨s0, s1, s2⟩, s3, s4, s5⟩ := hW; go_simp⟩) (HC.out _ K42.out) ?_
                try (simp only [Act.put, List.getElem_toArray, List.getElem_cons_succ, List.getElem_cons_zero, List.setIfInBounds_toArray, List.set_cons_zero, List.set_cons_succ])
                refine wpAnyH_ready (rs := [13, 16]) (by kernel_rfl) (by simp) ?_
                refine AllReadyH.cons (o := _) rfl (fun KK hKK => ?_) (AllReadyH.cons (o := _) rfl (fun KK hKK => ?_) AllReadyH.nil)
                · rw [if_pos (by simp [Region.wanted, yielded])]
                  go_simp
                  have hk43 := Kept.alloc (fun _ => False) wc42 (.cells #[] 9)
                  have E43 := Lib.hid (owns_newS wc42)
                  have K43 := Lib.hid (K42.out.then hk43)
                  have B43 : wz.heap.size ≤ wc42.heap.size := K42.out.size
                  refine hKK.out _ _ (HC.out _ K43.out) (fun _ => ?_)
                  clear hKK KK
                  try (simp only [Act.put, List.getElem_toArray, List.getElem_cons_succ, List.getElem_cons_zero, List.setIfInBounds_toArray, List.set_cons_zero, List.set_cons_succ])
                  generalize hg43 : wc42.alloc (.cells #[] 9) = Wx43 at E43 K43  ⊢
                  clear hk43 hg43
                  generalize hb43 : wc42.heap.size = gb43 at E43 B43 ⊢
                  have EL43 := Lib.hid (E43.out.low B43)
                  clear hb43
                  refine wpAnyH_ready (rs := [15, 16]) (by kernel_rfl) (by simp) ?_
                  refine AllReadyH.cons (o := _) rfl (fun KK hKK => ?_) (AllReadyH.cons (o := _) rfl (fun KK hKK => ?_) AllReadyH.nil)
                  · refine step_append_strsG (by simp [Region.wanted, yielded]) _ _ (by rfl) (by rfl) wz.heap.size (.slice (some ⟨gb43, 0, none⟩) 0 0) (vl) ([]) l (by rfl) (by rfl) EL43.out (HLS.out _ K43.out) (by have := HLL.out; simp; omega) (by have := K43.out.size; omega) ?_
                    intro a44 c44 w44 ho44 hk44
                    generalize ([] ++ l).length = L44 at ho44 ⊢
                    have E44 := Lib.hid ho44
                    have K44 := Lib.hid (K43.out.trans hk44 (T := fun _ => False) (fun _ _ h => h) (fun i hi e => by have := EL43.out.lt i e; omega))
                    clear ho44 hk44
                    refine hKK.out _ _ (HC.out _ K44.out) (fun _ => ?_)
                    clear hKK KK
                    try (simp only [Act.put, List.getElem_toArray, List.getElem_cons_succ, List.getElem_cons_zero, List.setIfInBounds_toArray, List.set_cons_zero, List.set_cons_succ])
                    refine wpAnyH_ready (rs := [16]) (by kernel_rfl) (by simp) ?_
                    refine AllReadyH.cons (o := _) rfl (fun KK hKK => ?_) AllReadyH.nil
                    rw [if_pos (by simp [Region.wanted, yielded])]
                    go_simp
                    have hk45 := Kept.alloc (fun _ => False) w44 (.cells #[.string (⟨#[48, 45, 102, 114, 101, 115, 104, 46, 110, 97, 109, 101]⟩ : ByteArray)] 9)
                    have P45 := Lib.hid (strs_new w44 #[.string (⟨#[48, 45, 102, 114, 101, 115, 104, 46, 110, 97, 109, 101]⟩ : ByteArray)] 9 1 [(⟨#[48, 45, 102, 114, 101, 115, 104, 46, 110, 97, 109, 101]⟩ : ByteArray)] rfl rfl (by unfold maxLen; omega))
                    have K45 := Lib.hid (K44.out.then hk45)
                    have E45 := Lib.hid (E44.out.kept hk45 (fun _ _ h => h))
                    refine hKK.out _ _ (HC.out _ K45.out) (fun _ => ?_)
                    clear hKK KK
                    try (simp only [Act.put, List.getElem_toArray, List.getElem_cons_succ, List.getElem_cons_zero, List.setIfInBounds_toArray, List.set_cons_zero, List.set_cons_succ])
                    generalize hg45 : w44.alloc (.cells #[.string (⟨#[48, 45, 102, 114, 101, 115, 104, 46, 110, 97, 109, 101]⟩ : ByteArray)] 9) = Wx45 at P45 K45 E45 ⊢
                    clear hk45 hg45
                    generalize hb45 : w44.heap.size = gb45 at P45 ⊢
                    clear hb45
                    refine wpAnyH_ready (rs := [17]) (by kernel_rfl) (by simp) ?_
                    refine AllReadyH.cons (o := _) rfl (fun KK hKK => ?_) AllReadyH.nil
                    refine step_append_strsG (by simp [Region.wanted, yielded]) _ _ (by rfl) (by rfl) wz.heap.size (.slice a44 L44 c44) (.slice (some ⟨gb45, 0, none⟩) 1 1) (([] ++ l)) [(⟨#[48, 45, 102, 114, 101, 115, 104, 46, 110, 97, 109, 101]⟩ : ByteArray)] (by rfl) (by rfl) E45.out P45.out (by have := HLL.out; simp; omega) (by have := K45.out.size; omega) ?_
                    intro a46 c46 w46 ho46 hk46
                    generalize (([] ++ l) ++ [(⟨#[48, 45, 102, 114, 101, 115, 104, 46, 110, 97, 109, 101]⟩ : ByteArray)]).length = L46 at ho46 ⊢
                    have E46 := Lib.hid ho46
                    have K46 := Lib.hid (K45.out.trans hk46 (T := fun _ => False) (fun _ _ h => h) (fun i hi e => by have := E45.out.lt i e; omega))
                    clear ho46 hk46
                    refine hKK.out _ _ (HC.out _ K46.out) (fun _ => ?_)
                    clear hKK KK
                    try (simp only [Act.put, List.getElem_toArray, List.getElem_cons_succ, List.getElem_cons_zero, List.setIfInBounds_toArray, List.set_cons_zero, List.set_cons_succ])
                    refine wpAnyH_ready (rs := [18]) (by kernel_rfl) (by simp) ?_
                    refine AllReadyH.cons (o := _) rfl (fun KK hKK => ?_) AllReadyH.nil
                    go_simp
                    go_at_call 28
                    refine (HJ.out _ _ (Strs.ofOwn E46.out)).mono ?_
                    rintro e wj47 ⟨rfl, rfl⟩
                    try go_wp2_with fail
                    refine hKK.out _ _ (HC.out _ K46.out) (fun _ => ?_)
                    clear hKK KK
                    try (simp only [Act.put, List.getElem_toArray, List.getElem_cons_succ, List.getElem_cons_zero, List.setIfInBounds_toArray, List.set_cons_zero, List.set_cons_succ])
                    refine wpAnyH_take (i := 19) (v := .bool (!N)) rfl (by kernel_rfl) (by kernel_rfl) (by kernel_rfl) (fun _ _ _ h => h) (Or.inl ⟨by simp [Region.wanted, yielded], fun W hW => by obtain ⟨⟨s0, s1, s2⟩, s3, s4, s5⟩ := hW; go_simp⟩) (HC.out _ K46.out) ?_
                    try (simp only [Act.put, List.getElem_toArray, List.getElem_cons_succ, List.getElem_cons_zero, List.setIfInBounds_toArray, List.set_cons_zero, List.set_cons_succ])
                    refine wpAnyH_take (i := 20) (v := .bool (!N)) rfl (by kernel_rfl) (by kernel_rfl) (by kernel_rfl) (fun _ _ _ h => h) (Or.inl ⟨by simp [Region.wanted, yielded], fun W hW => by obtain ⟨⟨s0, s1, s2⟩, s3, s4, s5⟩ := hW; go_simp⟩) (HC.out _ K46.out) ?_
                    try (simp only [Act.put, List.getElem_toArray, List.getElem_cons_succ, List.getElem_cons_zero, List.setIfInBounds_toArray, List.set_cons_zero, List.set_cons_succ])
                    refine wpAnyH_take (i := 21) (v := .bool (!N)) rfl (by kernel_rfl) (by kernel_rfl) (by kernel_rfl) (fun _ _ _ h => h) (Or.inl ⟨by simp [Region.wanted, yielded], fun W hW => by obtain ⟨⟨s0, s1, s2⟩, s3, s4, s5⟩ := hW; go_simp⟩) (HC.out _ K46.out) ?_
                    try (simp only [Act.put, List.getElem_toArray, List.getElem_cons_succ, List.getElem_cons_zero, List.setIfInBounds_toArray, List.set_cons_zero, List.set_cons_succ])
                    refine wpAnyH_done (by kernel_rfl) ?_ _
                    have KF := Lib.hid (K5.out.then K46.out)
                    clear HC HJ HCF HLS HLL
                    go_wp2_with fail
                    go_ret
                    exact ⟨rfl, KF.out⟩
                  · rw [if_pos (by simp [Region.wanted, yielded])]
                    go_simp
                    have hk48 := Kept.alloc (fun _ => False) Wx43 (.cells #[.string (⟨#[48, 45, 102, 114, 101, 115, 104, 46, 110, 97, 109, 101]⟩ : ByteArray)] 9)
                    have P48 := Lib.hid (strs_new Wx43 #[.string (⟨#[48, 45, 102, 114, 101, 115, 104, 46, 110, 97, 109, 101]⟩ : ByteArray)] 9 1 [(⟨#[48, 45, 102, 114, 101, 115, 104, 46, 110, 97, 109, 101]⟩ : ByteArray)] rfl rfl (by unfold maxLen; omega))
                    have K48 := Lib.hid (K43.out.then hk48)
                    have E48 := Lib.hid (EL43.out.kept hk48 (fun _ _ h => h))
                    have hne48 : Wx43.heap.size ≠ gb43 := by have := (EL43.out.bound gb43 rfl).2; omega
                    refine hKK.out _ _ (HC.out _ K48.out) (fun _ => ?_)
                    clear hKK KK
                    try (simp only [Act.put, List.getElem_toArray, List.getElem_cons_succ, List.getElem_cons_zero, List.setIfInBounds_toArray, List.set_cons_zero, List.set_cons_succ])
                    generalize hg48 : Wx43.alloc (.cells #[.string (⟨#[48, 45, 102, 114, 101, 115, 104, 46, 110, 97, 109, 101]⟩ : ByteArray)] 9) = Wx48 at P48 K48 E48 ⊢
                    clear hk48 hg48
                    generalize hb48 : Wx43.heap.size = gb48 at P48 hne48 ⊢
                    clear hb48
                    refine wpAnyH_ready (rs := [15]) (by kernel_rfl) (by simp) ?_
                    refine AllReadyH.cons (o := _) rfl (fun KK hKK => ?_) AllReadyH.nil
                    refine step_append_strsG (by simp [Region.wanted, yielded]) _ _ (by rfl) (by rfl) wz.heap.size (.slice (some ⟨gb43, 0, none⟩) 0 0) (vl) ([]) l (by rfl) (by rfl) E48.out (HLS.out _ K48.out) (by have := HLL.out; simp; omega) (by have := K48.out.size; omega) ?_
                    intro a49 c49 w49 ho49 hk49
                    generalize ([] ++ l).length = L49 at ho49 ⊢
                    have E49 := Lib.hid ho49
                    have K49 := Lib.hid (K48.out.trans hk49 (T := fun _ => False) (fun _ _ h => h) (fun i hi e => by have := E48.out.lt i e; omega))
                    have P49 := Lib.hid (P48.out.kept hk49 (fun j hj e => by simp [Value.ownBlock] at e hj; omega))
                    clear ho49 hk49
                    refine hKK.out _ _ (HC.out _ K49.out) (fun _ => ?_)
                    clear hKK KK
                    try (simp only [Act.put, List.getElem_toArray, List.getElem_cons_succ, List.getElem_cons_zero, List.setIfInBounds_toArray, List.set_cons_zero, List.set_cons_succ])
                    refine wpAnyH_ready (rs := [17]) (by kernel_rfl) (by simp) ?_
                    refine AllReadyH.cons (o := _) rfl (fun KK hKK => ?_) AllReadyH.nil
                    refine step_append_strsG (by simp [Region.wanted, yielded]) _ _ (by rfl) (by rfl) wz.heap.size (.slice a49 L49 c49) (.slice (some ⟨gb48, 0, none⟩) 1 1) (([] ++ l)) [(⟨#[48, 45, 102, 114, 101, 115, 104, 46, 110, 97, 109, 101]⟩ : ByteArray)] (by rfl) (by rfl) E49.out P49.out (by have := HLL.out; simp; omega) (by have := K49.out.size; omega) ?_
                    intro a50 c50 w50 ho50 hk50
                    generalize (([] ++ l) ++ [(⟨#[48, 45, 102, 114, 101, 115, 104, 46, 110, 97, 109, 101]⟩ : ByteArray)]).length = L50 at ho50 ⊢
                    have E50 := Lib.hid ho50
                    have K50 := Lib.hid (K49.out.trans hk50 (T := fun _ => False) (fun _ _ h => h) (fun i hi e => by have := E49.out.lt i e; omega))
                    clear ho50 hk50
                    refine hKK.out _ _ (HC.out _ K50.out) (fun _ => ?_)
                    clear hKK KK
                    try (simp only [Act.put, List.getElem_toArray, List.getElem_cons_succ, List.getElem_cons_zero, List.setIfInBounds_toArray, List.set_cons_zero, List.set_cons_succ])
                    refine wpAnyH_ready (rs := [18]) (by kernel_rfl) (by simp) ?_
                    refine AllReadyH.cons (o := _) rfl (fun KK hKK => ?_) AllReadyH.nil
                    go_simp
                    go_at_call 28
                    refine (HJ.out _ _ (Strs.ofOwn E50.out)).mono ?_
                    rintro e wj51 ⟨rfl, rfl⟩
                    try go_wp2_with fail
                    refine hKK.out _ _ (HC.out _ K50.out) (fun _ => ?_)
                    clear hKK KK
                    try (simp only [Act.put, List.getElem_toArray, List.getElem_cons_succ, List.getElem_cons_zero, List.setIfInBounds_toArray, List.set_cons_zero, List.set_cons_succ])
                    refine wpAnyH_take (i := 19) (v := .bool (!N)) rfl (by kernel_rfl) (by kernel_rfl) (by kernel_rfl) (fun _ _ _ h => h) (Or.inl ⟨by simp [Region.wanted, yielded], fun W hW => by obtain ⟨⟨s0, s1, s2⟩, s3, s4, s5⟩ := hW; go_simp⟩) (HC.out _ K50.out) ?_
                    try (simp only [Act.put, List.getElem_toArray, List.getElem_cons_succ, List.getElem_cons_zero, List.setIfInBounds_toArray, List.set_cons_zero, List.set_cons_succ])
                    refine wpAnyH_take (i := 20) (v := .bool (!N)) rfl (by kernel_rfl) (by kernel_rfl) (by kernel_rfl) (fun _ _ _ h => h) (Or.inl ⟨by simp [Region.wanted, yielded], fun W hW => by obtain ⟨⟨s0, s1, s2⟩, s3, s4, s5⟩ := hW; go_simp⟩) (HC.out _ K50.out) ?_
                    try (simp only [Act.put, List.getElem_toArray, List.getElem_cons_succ, List.getElem_cons_zero, List.setIfInBounds_toArray, List.set_cons_zero, List.set_cons_succ])
                    refine wpAnyH_take (i := 21) (v := .bool (!N)) rfl (by kernel_rfl) (by kernel_rfl) (by kernel_rfl) (fun _ _ _ h => h) (Or.inl ⟨by simp [Region.wanted, yielded], fun W hW => by obtain ⟨⟨s0, s1, s2⟩, s3, s4, s5⟩ := hW; go_simp⟩) (HC.out _ K50.out) ?_
                    try (simp only [Act.put, List.getElem_toArray, List.getElem_cons_succ, List.getElem_cons_zero, List.setIfInBounds_toArray, List.set_cons_zero, List.set_cons_succ])
                    refine wpAnyH_done (by kernel_rfl) ?_ _
                    have KF := Lib.hid (K5.out.then K50.out)
                    clear HC HJ HCF HLS HLL
                    go_wp2_with fail
                    go_ret
                    exact ⟨rfl, KF.out⟩
                · rw [if_pos (by simp [Region.wanted, yielded])]
                  go_simp
                  have hk52 := Kept.alloc (fun _ => False) wc42 (.cells #[.string (⟨#[48, 45, 102, 114, 101, 115, 104, 46, 110, 97, 109, 101]⟩ : ByteArray)] 9)
                  have P52 := Lib.hid (strs_new wc42 #[.string (⟨#[48, 45, 102, 114, 101, 115, 104, 46, 110, 97, 109, 101]⟩ : ByteArray)] 9 1 [(⟨#[48, 45, 102, 114, 101, 115, 104, 46, 110, 97, 109, 101]⟩ : ByteArray)] rfl rfl (by unfold maxLen; omega))
                  have K52 := Lib.hid (K42.out.then hk52)
                  refine hKK.out _ _ (HC.out _ K52.out) (fun _ => ?_)
                  clear hKK KK
                  try (simp only [Act.put, List.getElem_toArray, List.getElem_cons_succ, List.getElem_cons_zero, List.setIfInBounds_toArray, List.set_cons_zero, List.set_cons_succ])
                  generalize hg52 : wc42.alloc (.cells #[.string (⟨#[48, 45, 102, 114, 101, 115, 104, 46, 110, 97, 109, 101]⟩ : ByteArray)] 9) = Wx52 at P52 K52  ⊢
                  clear hk52 hg52
                  generalize hb52 : wc42.heap.size = gb52 at P52 ⊢
                  clear hb52
                  refine wpAnyH_ready (rs := [13]) (by kernel_rfl) (by simp) ?_
                  refine AllReadyH.cons (o := _) rfl (fun KK hKK => ?_) AllReadyH.nil
                  rw [if_pos (by simp [Region.wanted, yielded])]
                  go_simp
                  have hk53 := Kept.alloc (fun _ => False) Wx52 (.cells #[] 9)
                  have E53 := Lib.hid (owns_newS Wx52)
                  have K53 := Lib.hid (K52.out.then hk53)
                  have B53 : wz.heap.size ≤ Wx52.heap.size := K52.out.size
                  have P53 := Lib.hid (P52.out.kept hk53 (fun _ _ h => h))
                  have hne53 : gb52 ≠ Wx52.heap.size := by
                    obtain ⟨g9, o9, e9, hl9, _⟩ := P52.out.at (k := 0) (by simp)
                    cases e9
                    omega
                  refine hKK.out _ _ (HC.out _ K53.out) (fun _ => ?_)
                  clear hKK KK
                  try (simp only [Act.put, List.getElem_toArray, List.getElem_cons_succ, List.getElem_cons_zero, List.setIfInBounds_toArray, List.set_cons_zero, List.set_cons_succ])
                  generalize hg53 : Wx52.alloc (.cells #[] 9) = Wx53 at E53 K53 P53 ⊢
                  clear hk53 hg53
                  generalize hb53 : Wx52.heap.size = gb53 at E53 B53 hne53 ⊢
                  have EL53 := Lib.hid (E53.out.low B53)
                  clear hb53
                  refine wpAnyH_ready (rs := [15]) (by kernel_rfl) (by simp) ?_
                  refine AllReadyH.cons (o := _) rfl (fun KK hKK => ?_) AllReadyH.nil
                  refine step_append_strsG (by simp [Region.wanted, yielded]) _ _ (by rfl) (by rfl) wz.heap.size (.slice (some ⟨gb53, 0, none⟩) 0 0) (vl) ([]) l (by rfl) (by rfl) EL53.out (HLS.out _ K53.out) (by have := HLL.out; simp; omega) (by have := K53.out.size; omega) ?_
                  intro a54 c54 w54 ho54 hk54
                  generalize ([] ++ l).length = L54 at ho54 ⊢
                  have E54 := Lib.hid ho54
                  have K54 := Lib.hid (K53.out.trans hk54 (T := fun _ => False) (fun _ _ h => h) (fun i hi e => by have := EL53.out.lt i e; omega))
                  have P54 := Lib.hid (P53.out.kept hk54 (fun j hj e => by simp [Value.ownBlock] at e hj; omega))
                  clear ho54 hk54
                  refine hKK.out _ _ (HC.out _ K54.out) (fun _ => ?_)
                  clear hKK KK
                  try (simp only [Act.put, List.getElem_toArray, List.getElem_cons_succ, List.getElem_cons_zero, List.setIfInBounds_toArray, List.set_cons_zero, List.set_cons_succ])
                  refine wpAnyH_ready (rs := [17]) (by kernel_rfl) (by simp) ?_
                  refine AllReadyH.cons (o := _) rfl (fun KK hKK => ?_) AllReadyH.nil
                  refine step_append_strsG (by simp [Region.wanted, yielded]) _ _ (by rfl) (by rfl) wz.heap.size (.slice a54 L54 c54) (.slice (some ⟨gb52, 0, none⟩) 1 1) (([] ++ l)) [(⟨#[48, 45, 102, 114, 101, 115, 104, 46, 110, 97, 109, 101]⟩ : ByteArray)] (by rfl) (by rfl) E54.out P54.out (by have := HLL.out; simp; omega) (by have := K54.out.size; omega) ?_
                  intro a55 c55 w55 ho55 hk55
                  generalize (([] ++ l) ++ [(⟨#[48, 45, 102, 114, 101, 115, 104, 46, 110, 97, 109, 101]⟩ : ByteArray)]).length = L55 at ho55 ⊢
                  have E55 := Lib.hid ho55
                  have K55 := Lib.hid (K54.out.trans hk55 (T := fun _ => False) (fun _ _ h => h) (fun i hi e => by have := E54.out.lt i e; omega))
                  clear ho55 hk55
                  refine hKK.out _ _ (HC.out _ K55.out) (fun _ => ?_)
                  clear hKK KK
                  try (simp only [Act.put, List.getElem_toArray, List.getElem_cons_succ, List.getElem_cons_zero, List.setIfInBounds_toArray, List.set_cons_zero, List.set_cons_succ])
                  refine wpAnyH_ready (rs := [18]) (by kernel_rfl) (by simp) ?_
                  refine AllReadyH.cons (o := _) rfl (fun KK hKK => ?_) AllReadyH.nil
                  go_simp
                  go_at_call 28
                  refine (HJ.out _ _ (Strs.ofOwn E55.out)).mono ?_
                  rintro e wj56 ⟨rfl, rfl⟩
                  try go_wp2_with fail
                  refine hKK.out _ _ (HC.out _ K55.out) (fun _ => ?_)
                  clear hKK KK
                  try (simp only [Act.put, List.getElem_toArray, List.getElem_cons_succ, List.getElem_cons_zero, List.setIfInBounds_toArray, List.set_cons_zero, List.set_cons_succ])
                  refine wpAnyH_take (i := 19) (v := .bool (!N)) rfl (by kernel_rfl) (by kernel_rfl) (by kernel_rfl) (fun _ _ _ h => h) (Or.inl ⟨by simp [Region.wanted, yielded], fun W hW => by obtain ⟨⟨s0, s1, s2⟩, s3, s4, s5⟩ := hW; go_simp⟩) (HC.out _ K55.out) ?_
                  try (simp only [Act.put, List.getElem_toArray, List.getElem_cons_succ, List.getElem_cons_zero, List.setIfInBounds_toArray, List.set_cons_zero, List.set_cons_succ])
                  refine wpAnyH_take (i := 20) (v := .bool (!N)) rfl (by kernel_rfl) (by kernel_rfl) (by kernel_rfl) (fun _ _ _ h => h) (Or.inl ⟨by simp [Region.wanted, yielded], fun W hW => by obtain ⟨⟨s0, s1, s2⟩, s3, s4, s5⟩ := hW; go_simp⟩) (HC.out _ K55.out) ?_
                  try (simp only [Act.put, List.getElem_toArray, List.getElem_cons_succ, List.getElem_cons_zero, List.setIfInBounds_toArray, List.set_cons_zero, List.set_cons_succ])
                  refine wpAnyH_take (i := 21) (v := .bool (!N)) rfl (by kernel_rfl) (by kernel_rfl) (by kernel_rfl) (fun _ _ _ h => h) (Or.inl ⟨by simp [Region.wanted, yielded], fun W hW => by obtain ⟨⟨s0, s1, s2⟩, s3, s4, s5⟩ := hW; go_simp⟩) (HC.out _ K55.out) ?_
                  try (simp only [Act.put, List.getElem_toArray, List.getElem_cons_succ, List.getElem_cons_zero, List.setIfInBounds_toArray, List.set_cons_zero, List.set_cons_succ])
                  refine wpAnyH_done (by kernel_rfl) ?_ _
                  have KF := Lib.hid (K5.out.then K55.out)
                  clear HC HJ HCF HLS HLL
                  go_wp2_with fail
                  go_ret
                  exact ⟨rfl, KF.out⟩
            · rw [if_pos (by simp [Region.wanted, yielded])]
              go_simp
              have hk57 := Kept.alloc (fun _ => False) Wd (.cells #[.string (⟨#[48, 45, 102, 114, 101, 115, 104, 46, 110, 97, 109, 101]⟩ : ByteArray)] 9)
              have P57 := Lib.hid (strs_new Wd #[.string (⟨#[48, 45, 102, 114, 101, 115, 104, 46, 110, 97, 109, 101]⟩ : ByteArray)] 9 1 [(⟨#[48, 45, 102, 114, 101, 115, 104, 46, 110, 97, 109, 101]⟩ : ByteArray)] rfl rfl (by unfold maxLen; omega))
              have K57 := Lib.hid (KD.out.then hk57)
              refine hKK.out _ _ (HC.out _ K57.out) (fun _ => ?_)
              clear hKK KK
              try (simp only [Act.put, List.getElem_toArray, List.getElem_cons_succ, List.getElem_cons_zero, List.setIfInBounds_toArray, List.set_cons_zero, List.set_cons_succ])
              generalize hg57 : Wd.alloc (.cells #[.string (⟨#[48, 45, 102, 114, 101, 115, 104, 46, 110, 97, 109, 101]⟩ : ByteArray)] 9) = Wx57 at P57 K57  ⊢
              clear hk57 hg57
              generalize hb57 : Wd.heap.size = gb57 at P57 ⊢
              clear hb57
              refine wpAnyH_ready (rs := [3]) (by kernel_rfl) (by simp) ?_
              refine AllReadyH.cons (o := _) rfl (fun KK hKK => ?_) AllReadyH.nil
              rw [if_pos (by simp [Region.wanted, yielded])]
              go_simp
              have hk58 := Kept.alloc (fun _ => False) Wx57 (.cells #[] 9)
              have E58 := Lib.hid (owns_newS Wx57)
              have K58 := Lib.hid (K57.out.then hk58)
              have B58 : wz.heap.size ≤ Wx57.heap.size := K57.out.size
              have P58 := Lib.hid (P57.out.kept hk58 (fun _ _ h => h))
              have hne58 : gb57 ≠ Wx57.heap.size := by
                obtain ⟨g9, o9, e9, hl9, _⟩ := P57.out.at (k := 0) (by simp)
                cases e9
                omega
              refine hKK.out _ _ (HC.out _ K58.out) (fun _ => ?_)
              clear hKK KK
              try (simp only [Act.put, List.getElem_toArray, List.getElem_cons_succ, List.getElem_cons_zero, List.setIfInBounds_toArray, List.set_cons_zero, List.set_cons_succ])
              generalize hg58 : Wx57.alloc (.cells #[] 9) = Wx58 at E58 K58 P58 ⊢
              clear hk58 hg58
              generalize hb58 : Wx57.heap.size = gb58 at E58 B58 hne58 ⊢
              have EL58 := Lib.hid (E58.out.low B58)
              clear hb58
              refine wpAnyH_ready (rs := [5]) (by kernel_rfl) (by simp) ?_
              refine AllReadyH.cons (o := _) rfl (fun KK hKK => ?_) AllReadyH.nil
              refine step_append_strsG (by simp [Region.wanted, yielded]) _ _ (by rfl) (by rfl) wz.heap.size (.slice (some ⟨gb58, 0, none⟩) 0 0) (vl) ([]) l (by rfl) (by rfl) EL58.out (HLS.out _ K58.out) (by have := HLL.out; simp; omega) (by have := K58.out.size; omega) ?_
              intro a59 c59 w59 ho59 hk59
              generalize ([] ++ l).length = L59 at ho59 ⊢
              have E59 := Lib.hid ho59
              have K59 := Lib.hid (K58.out.trans hk59 (T := fun _ => False) (fun _ _ h => h) (fun i hi e => by have := EL58.out.lt i e; omega))
              have P59 := Lib.hid (P58.out.kept hk59 (fun j hj e => by simp [Value.ownBlock] at e hj; omega))
              clear ho59 hk59
              refine hKK.out _ _ (HC.out _ K59.out) (fun _ => ?_)
              clear hKK KK
              try (simp only [Act.put, List.getElem_toArray, List.getElem_cons_succ, List.getElem_cons_zero, List.setIfInBounds_toArray, List.set_cons_zero, List.set_cons_succ])
              refine wpAnyH_ready (rs := [7]) (by kernel_rfl) (by simp) ?_
              refine AllReadyH.cons (o := _) rfl (fun KK hKK => ?_) AllReadyH.nil
              refine step_append_strsG (by simp [Region.wanted, yielded]) _ _ (by rfl) (by rfl) wz.heap.size (.slice a59 L59 c59) (.slice (some ⟨gb57, 0, none⟩) 1 1) (([] ++ l)) [(⟨#[48, 45, 102, 114, 101, 115, 104, 46, 110, 97, 109, 101]⟩ : ByteArray)] (by rfl) (by rfl) E59.out P59.out (by have := HLL.out; simp; omega) (by have := K59.out.size; omega) ?_
              intro a60 c60 w60 ho60 hk60
              generalize (([] ++ l) ++ [(⟨#[48, 45, 102, 114, 101, 115, 104, 46, 110, 97, 109, 101]⟩ : ByteArray)]).length = L60 at ho60 ⊢
              have E60 := Lib.hid ho60
              have K60 := Lib.hid (K59.out.trans hk60 (T := fun _ => False) (fun _ _ h => h) (fun i hi e => by have := E59.out.lt i e; omega))
              clear ho60 hk60
              refine hKK.out _ _ (HC.out _ K60.out) (fun _ => ?_)
              clear hKK KK
              try (simp only [Act.put, List.getElem_toArray, List.getElem_cons_succ, List.getElem_cons_zero, List.setIfInBounds_toArray, List.set_cons_zero, List.set_cons_succ])
              refine wpAnyH_ready (rs := [8]) (by kernel_rfl) (by simp) ?_
              refine AllReadyH.cons (o := _) rfl (fun KK hKK => ?_) AllReadyH.nil
              go_simp
              go_at_call 28
              refine (HJ.out _ _ (Strs.ofOwn E60.out)).mono ?_
              rintro e wj61 ⟨rfl, rfl⟩
              try go_wp2_with fail
              refine hKK.out _ _ (HC.out _ K60.out) (fun _ => ?_)
              clear hKK KK
              try (simp only [Act.put, List.getElem_toArray, List.getElem_cons_succ, List.getElem_cons_zero, List.setIfInBounds_toArray, List.set_cons_zero, List.set_cons_succ])
              refine wpAnyH_ready (rs := [9]) (by kernel_rfl) (by simp) ?_
              refine AllReadyH.cons (o := _) rfl (fun KK hKK => ?_) AllReadyH.nil
              go_simp
              go_at_call 32
              refine (HCF.out _).mono ?_
              rintro e wc62 ⟨rfl, jc62⟩
              have K62 := Lib.hid (K60.out.then jc62)
              clear jc62
              try go_wp2_with fail
              refine hKK.out _ _ (HC.out _ K62.out) (fun _ => ?_)
              clear hKK KK
              try (simp only [Act.put, List.getElem_toArray, List.getElem_cons_succ, List.getElem_cons_zero, List.setIfInBounds_toArray, List.set_cons_zero, List.set_cons_succ])
              refine wpAnyH_take (i := 10) (v := .bool true) rfl (by kernel_rfl) (by kernel_rfl) (by kernel_rfl) (fun _ _ _ h => h) (Or.inl ⟨by simp [Region.wanted, yielded], fun W hW => by obtain ⟨⟨s0, s1, s2⟩, s3, s4, s5⟩ := hW; go_simp⟩) (HC.out _ K62.out) ?_
              try (simp only [Act.put, List.getElem_toArray, List.getElem_cons_succ, List.getElem_cons_zero, List.setIfInBounds_toArray, List.set_cons_zero, List.set_cons_succ])
              refine wpAnyH_take (i := 11) (v := .pointer (some ⟨Q, 1, none⟩)) rfl (by kernel_rfl) (by kernel_rfl) (by kernel_rfl) (fun _ _ _ h => h) (Or.inl ⟨by simp [Region.wanted, yielded], fun W hW => by obtain ⟨⟨s0, s1, s2⟩, s3, s4, s5⟩ := hW; go_simp⟩) (HC.out _ K62.out) ?_
              try (simp only [Act.put, List.getElem_toArray, List.getElem_cons_succ, List.getElem_cons_zero, List.setIfInBounds_toArray, List.set_cons_zero, List.set_cons_succ])
              refine wpAnyH_take (i := 12) (v := .string p) rfl (by kernel_rfl) (by kernel_rfl) (by kernel_rfl) (fun _ _ _ h => h) (Or.inl ⟨by simp [Region.wanted, yielded], fun W hW => by obtain ⟨⟨s0, s1, s2⟩, s3, s4, s5⟩ := hW; go_simp⟩) (HC.out _ K62.out) ?_
              try (simp only [Act.put, List.getElem_toArray, List.getElem_cons_succ, List.getElem_cons_zero, List.setIfInBounds_toArray, List.set_cons_zero, List.set_cons_succ])
              refine wpAnyH_take (i := 14) (v := vl) rfl (by kernel_rfl) (by kernel_rfl) (by kernel_rfl) (fun _ _ _ h => h) (Or.inl ⟨by simp [Region.wanted, yielded], fun W hW => by obtain ⟨⟨s0, s1, s2⟩, s3, s4, s5⟩ := hW; go_simp⟩) (HC.out _ K62.out) ?_
              try (simp only [Act.put, List.getElem_toArray, List.getElem_cons_succ, List.getElem_cons_zero, List.setIfInBounds_toArray, List.set_cons_zero, List.set_cons_succ])
              refine wpAnyH_ready (rs := [13, 16]) (by kernel_rfl) (by simp) ?_
              refine AllReadyH.cons (o := _) rfl (fun KK hKK => ?_) (AllReadyH.cons (o := _) rfl (fun KK hKK => ?_) AllReadyH.nil)
              · rw [if_pos (by simp [Region.wanted, yielded])]
                go_simp
                have hk63 := Kept.alloc (fun _ => False) wc62 (.cells #[] 9)
                have E63 := Lib.hid (owns_newS wc62)
                have K63 := Lib.hid (K62.out.then hk63)
                have B63 : wz.heap.size ≤ wc62.heap.size := K62.out.size
                refine hKK.out _ _ (HC.out _ K63.out) (fun _ => ?_)
                clear hKK KK
                try (simp only [Act.put, List.getElem_toArray, List.getElem_cons_succ, List.getElem_cons_zero, List.setIfInBounds_toArray, List.set_cons_zero, List.set_cons_succ])
                generalize hg63 : wc62.alloc (.cells #[] 9) = Wx63 at E63 K63  ⊢
                clear hk63 hg63
                generalize hb63 : wc62.heap.size = gb63 at E63 B63 ⊢
                have EL63 := Lib.hid (E63.out.low B63)
                clear hb63
                refine wpAnyH_ready (rs := [15, 16]) (by kernel_rfl) (by simp) ?_
                refine AllReadyH.cons (o := _) rfl (fun KK hKK => ?_) (AllReadyH.cons (o := _) rfl (fun KK hKK => ?_) AllReadyH.nil)
                · refine step_append_strsG (by simp [Region.wanted, yielded]) _ _ (by rfl) (by rfl) wz.heap.size (.slice (some ⟨gb63, 0, none⟩) 0 0) (vl) ([]) l (by rfl) (by rfl) EL63.out (HLS.out _ K63.out) (by have := HLL.out; simp; omega) (by have := K63.out.size; omega) ?_
                  intro a64 c64 w64 ho64 hk64
                  generalize ([] ++ l).length = L64 at ho64 ⊢
                  have E64 := Lib.hid ho64
                  have K64 := Lib.hid (K63.out.trans hk64 (T := fun _ => False) (fun _ _ h => h) (fun i hi e => by have := EL63.out.lt i e; omega))
                  clear ho64 hk64
                  refine hKK.out _ _ (HC.out _ K64.out) (fun _ => ?_)
                  clear hKK KK
                  try (simp only [Act.put, List.getElem_toArray, List.getElem_cons_succ, List.getElem_cons_zero, List.setIfInBounds_toArray, List.set_cons_zero, List.set_cons_succ])
                  refine wpAnyH_ready (rs := [16]) (by kernel_rfl) (by simp) ?_
                  refine AllReadyH.cons (o := _) rfl (fun KK hKK => ?_) AllReadyH.nil
                  rw [if_pos (by simp [Region.wanted, yielded])]
                  go_simp
                  have hk65 := Kept.alloc (fun _ => False) w64 (.cells #[.string (⟨#[48, 45, 102, 114, 101, 115, 104, 46, 110, 97, 109, 101]⟩ : ByteArray)] 9)
                  have P65 := Lib.hid (strs_new w64 #[.string (⟨#[48, 45, 102, 114, 101, 115, 104, 46, 110, 97, 109, 101]⟩ : ByteArray)] 9 1 [(⟨#[48, 45, 102, 114, 101, 115, 104, 46, 110, 97, 109, 101]⟩ : ByteArray)] rfl rfl (by unfold maxLen; omega))
                  have K65 := Lib.hid (K64.out.then hk65)
                  have E65 := Lib.hid (E64.out.kept hk65 (fun _ _ h => h))
                  refine hKK.out _ _ (HC.out _ K65.out) (fun _ => ?_)
                  clear hKK KK
                  try (simp only [Act.put, List.getElem_toArray, List.getElem_cons_succ, List.getElem_cons_zero, List.setIfInBounds_toArray, List.set_cons_zero, List.set_cons_succ])
                  generalize hg65 : w64.alloc (.cells #[.string (⟨#[48, 45, 102, 114, 101, 115, 104, 46, 110, 97, 109, 101]⟩ : ByteArray)] 9) = Wx65 at P65 K65 E65 ⊢
                  clear hk65 hg65
                  generalize hb65 : w64.heap.size = gb65 at P65 ⊢
                  clear hb65
                  refine wpAnyH_ready (rs := [17]) (by kernel_rfl) (by simp) ?_
                  refine AllReadyH.cons (o := _) rfl (fun KK hKK => ?_) AllReadyH.nil
                  refine step_append_strsG (by simp [Region.wanted, yielded]) _ _ (by rfl) (by rfl) wz.heap.size (.slice a64 L64 c64) (.slice (some ⟨gb65, 0, none⟩) 1 1) (([] ++ l)) [(⟨#[48, 45, 102, 114, 101, 115, 104, 46, 110, 97, 109, 101]⟩ : ByteArray)] (by rfl) (by rfl) E65.out P65.out (by have := HLL.out; simp; omega) (by have := K65.out.size; omega) ?_
                  intro a66 c66 w66 ho66 hk66
                  generalize (([] ++ l) ++ [(⟨#[48, 45, 102, 114, 101, 115, 104, 46, 110, 97, 109, 101]⟩ : ByteArray)]).length = L66 at ho66 ⊢
                  have E66 := Lib.hid ho66
                  have K66 := Lib.hid (K65.out.trans hk66 (T := fun _ => False) (fun _ _ h => h) (fun i hi e => by have := E65.out.lt i e; omega))
                  clear ho66 hk66
                  refine hKK.out _ _ (HC.out _ K66.out) (fun _ => ?_)
                  clear hKK KK
                  try (simp only [Act.put, List.getElem_toArray, List.getElem_cons_succ, List.getElem_cons_zero, List.setIfInBounds_toArray, List.set_cons_zero, List.set_cons_succ])
                  refine wpAnyH_ready (rs := [18]) (by kernel_rfl) (by simp) ?_
                  refine AllReadyH.cons (o := _) rfl (fun KK hKK => ?_) AllReadyH.nil
                  go_simp
                  go_at_call 28
                  refine (HJ.out _ _ (Strs.ofOwn E66.out)).mono ?_
                  rintro e wj67 ⟨rfl, rfl⟩
                  try go_wp2_with fail
                  refine hKK.out _ _ (HC.out _ K66.out) (fun _ => ?_)
                  clear hKK KK
                  try (simp only [Act.put, List.getElem_toArray, List.getElem_cons_succ, List.getElem_cons_zero, List.setIfInBounds_toArray, List.set_cons_zero, List.set_cons_succ])
                  refine wpAnyH_take (i := 19) (v := .bool (!N)) rfl (by kernel_rfl) (by kernel_rfl) (by kernel_rfl) (fun _ _ _ h => h) (Or.inl ⟨by simp [Region.wanted, yielded], fun W hW => by obtain ⟨⟨s0, s1, s2⟩, s3, s4, s5⟩ := hW; go_simp⟩) (HC.out _ K66.out) ?_
                  try (simp only [Act.put, List.getElem_toArray, List.getElem_cons_succ, List.getElem_cons_zero, List.setIfInBounds_toArray, List.set_cons_zero, List.set_cons_succ])
                  refine wpAnyH_take (i := 20) (v := .bool (!N)) rfl (by kernel_rfl) (by kernel_rfl) (by kernel_rfl) (fun _ _ _ h => h) (Or.inl ⟨by simp [Region.wanted, yielded], fun W hW => by obtain ⟨⟨s0, s1, s2⟩, s3, s4, s5⟩ := hW; go_simp⟩) (HC.out _ K66.out) ?_
                  try (simp only [Act.put, List.getElem_toArray, List.getElem_cons_succ, List.getElem_cons_zero, List.setIfInBounds_toArray, List.set_cons_zero, List.set_cons_succ])
                  refine wpAnyH_take (i := 21) (v := .bool (!N)) rfl (by kernel_rfl) (by kernel_rfl) (by kernel_rfl) (fun _ _ _ h => h) (Or.inl ⟨by simp [Region.wanted, yielded], fun W hW => by obtain ⟨⟨s0, s1, s2⟩, s3, s4, s5⟩ := hW; go_simp⟩) (HC.out _ K66.out) ?_
                  try (simp only [Act.put, List.getElem_toArray, List.getElem_cons_succ, List.getElem_cons_zero, List.setIfInBounds_toArray, List.set_cons_zero, List.set_cons_succ])
                  refine wpAnyH_done (by kernel_rfl) ?_ _
                  have KF := Lib.hid (K5.out.then K66.out)
                  clear HC HJ HCF HLS HLL
                  go_wp2_with fail
                  go_ret
                  exact ⟨rfl, KF.out⟩
                · rw [if_pos (by simp [Region.wanted, yielded])]
                  go_simp
                  have hk68 := Kept.alloc (fun _ => False) Wx63 (.cells #[.string (⟨#[48, 45, 102, 114, 101, 115, 104, 46, 110, 97, 109, 101]⟩ : ByteArray)] 9)
                  have P68 := Lib.hid (strs_new Wx63 #[.string (⟨#[48, 45, 102, 114, 101, 115, 104, 46, 110, 97, 109, 101]⟩ : ByteArray)] 9 1 [(⟨#[48, 45, 102, 114, 101, 115, 104, 46, 110, 97, 109, 101]⟩ : ByteArray)] rfl rfl (by unfold maxLen; omega))
                  have K68 := Lib.hid (K63.out.then hk68)
                  have E68 := Lib.hid (EL63.out.kept hk68 (fun _ _ h => h))
                  have hne68 : Wx63.heap.size ≠ gb63 := by have := (EL63.out.bound gb63 rfl).2; omega
                  refine hKK.out _ _ (HC.out _ K68.out) (fun _ => ?_)
                  clear hKK KK
                  try (simp only [Act.put, List.getElem_toArray, List.getElem_cons_succ, List.getElem_cons_zero, List.setIfInBounds_toArray, List.set_cons_zero, List.set_cons_succ])
                  generalize hg68 : Wx63.alloc (.cells #[.string (⟨#[48, 45, 102, 114, 101, 115, 104, 46, 110, 97, 109, 101]⟩ : ByteArray)] 9) = Wx68 at P68 K68 E68 ⊢
                  clear hk68 hg68
                  generalize hb68 : Wx63.heap.size = gb68 at P68 hne68 ⊢
                  clear hb68
                  refine wpAnyH_ready (rs := [15]) (by kernel_rfl) (by simp) ?_
                  refine AllReadyH.cons (o := _) rfl (fun KK hKK => ?_) AllReadyH.nil
                  refine step_append_strsG (by simp [Region.wanted, yielded]) _ _ (by rfl) (by rfl) wz.heap.size (.slice (some ⟨gb63, 0, none⟩) 0 0) (vl) ([]) l (by rfl) (by rfl) E68.out (HLS.out _ K68.out) (by have := HLL.out; simp; omega) (by have := K68.out.size; omega) ?_
                  intro a69 c69 w69 ho69 hk69
                  generalize ([] ++ l).length = L69 at ho69 ⊢
                  have E69 := Lib.hid ho69
                  have K69 := Lib.hid (K68.out.trans hk69 (T := fun _ => False) (fun _ _ h => h) (fun i hi e => by have := E68.out.lt i e; omega))
                  have P69 := Lib.hid (P68.out.kept hk69 (fun j hj e => by simp [Value.ownBlock] at e hj; omega))
                  clear ho69 hk69
                  refine hKK.out _ _ (HC.out _ K69.out) (fun _ => ?_)
                  clear hKK KK
                  try (simp only [Act.put, List.getElem_toArray, List.getElem_cons_succ, List.getElem_cons_zero, List.setIfInBounds_toArray, List.set_cons_zero, List.set_cons_succ])
                  refine wpAnyH_ready (rs := [17]) (by kernel_rfl) (by simp) ?_
                  refine AllReadyH.cons (o := _) rfl (fun KK hKK => ?_) AllReadyH.nil
                  refine step_append_strsG (by simp [Region.wanted, yielded]) _ _ (by rfl) (by rfl) wz.heap.size (.slice a69 L69 c69) (.slice (some ⟨gb68, 0, none⟩) 1 1) (([] ++ l)) [(⟨#[48, 45, 102, 114, 101, 115, 104, 46, 110, 97, 109, 101]⟩ : ByteArray)] (by rfl) (by rfl) E69.out P69.out (by have := HLL.out; simp; omega) (by have := K69.out.size; omega) ?_
                  intro a70 c70 w70 ho70 hk70
                  generalize (([] ++ l) ++ [(⟨#[48, 45, 102, 114, 101, 115, 104, 46, 110, 97, 109, 101]⟩ : ByteArray)]).length = L70 at ho70 ⊢
                  have E70 := Lib.hid ho70
                  have K70 := Lib.hid (K69.out.trans hk70 (T := fun _ => False) (fun _ _ h => h) (fun i hi e => by have := E69.out.lt i e; omega))
                  clear ho70 hk70
                  refine hKK.out _ _ (HC.out _ K70.out) (fun _ => ?_)
                  clear hKK KK
                  try (simp only [Act.put, List.getElem_toArray, List.getElem_cons_succ, List.getElem_cons_zero, List.setIfInBounds_toArray, List.set_cons_zero, List.set_cons_succ])
                  refine wpAnyH_ready (rs := [18]) (by kernel_rfl) (by simp) ?_
                  refine AllReadyH.cons (o := _) rfl (fun KK hKK => ?_) AllReadyH.nil
                  go_simp
                  go_at_call 28
                  refine (HJ.out _ _ (Strs.ofOwn E70.out)).mono ?_
                  rintro e wj71 ⟨rfl, rfl⟩
                  try go_wp2_with fail
                  refine hKK.out _ _ (HC.out _ K70.out) (fun _ => ?_)
                  clear hKK KK
                  try (simp only [Act.put, List.getElem_toArray, List.getElem_cons_succ, List.getElem_cons_zero, List.setIfInBounds_toArray, List.set_cons_zero, List.set_cons_succ])
                  refine wpAnyH_take (i := 19) (v := .bool (!N)) rfl (by kernel_rfl) (by kernel_rfl) (by kernel_rfl) (fun _ _ _ h => h) (Or.inl ⟨by simp [Region.wanted, yielded], fun W hW => by obtain ⟨⟨s0, s1, s2⟩, s3, s4, s5⟩ := hW; go_simp⟩) (HC.out _ K70.out) ?_
                  try (simp only [Act.put, List.getElem_toArray, List.getElem_cons_succ, List.getElem_cons_zero, List.setIfInBounds_toArray, List.set_cons_zero, List.set_cons_succ])
                  refine wpAnyH_take (i := 20) (v := .bool (!N)) rfl (by kernel_rfl) (by kernel_rfl) (by kernel_rfl) (fun _ _ _ h => h) (Or.inl ⟨by simp [Region.wanted, yielded], fun W hW => by obtain ⟨⟨s0, s1, s2⟩, s3, s4, s5⟩ := hW; go_simp⟩) (HC.out _ K70.out) ?_
                  try (simp only [Act.put, List.getElem_toArray, List.getElem_cons_succ, List.getElem_cons_zero, List.setIfInBounds_toArray, List.set_cons_zero, List.set_cons_succ])
                  refine wpAnyH_take (i := 21) (v := .bool (!N)) rfl (by kernel_rfl) (by kernel_rfl) (by kernel_rfl) (fun _ _ _ h => h) (Or.inl ⟨by simp [Region.wanted, yielded], fun W hW => by obtain ⟨⟨s0, s1, s2⟩, s3, s4, s5⟩ := hW; go_simp⟩) (HC.out _ K70.out) ?_
                  try (simp only [Act.put, List.getElem_toArray, List.getElem_cons_succ, List.getElem_cons_zero, List.setIfInBounds_toArray, List.set_cons_zero, List.set_cons_succ])
                  refine wpAnyH_done (by kernel_rfl) ?_ _
                  have KF := Lib.hid (K5.out.then K70.out)
                  clear HC HJ HCF HLS HLL
                  go_wp2_with fail
                  go_ret
                  exact ⟨rfl, KF.out⟩
              · rw [if_pos (by simp [Region.wanted, yielded])]
                go_simp
                have hk72 := Kept.alloc (fun _ => False) wc62 (.cells #[.string (⟨#[48, 45, 102, 114, 101, 115, 104, 46, 110, 97, 109, 101]⟩ : ByteArray)] 9)
                have P72 := Lib.hid (strs_new wc62 #[.string (⟨#[48, 45, 102, 114, 101, 115, 104, 46, 110, 97, 109, 101]⟩ : ByteArray)] 9 1 [(⟨#[48, 45, 102, 114, 101, 115, 104, 46, 110, 97, 109, 101]⟩ : ByteArray)] rfl rfl (by unfold maxLen; omega))
                have K72 := Lib.hid (K62.out.then hk72)
                refine hKK.out _ _ (HC.out _ K72.out) (fun _ => ?_)
                clear hKK KK
                try (simp only [Act.put, List.getElem_toArray, List.getElem_cons_succ, List.getElem_cons_zero, List.setIfInBounds_toArray, List.set_cons_zero, List.set_cons_succ])
                generalize hg72 : wc62.alloc (.cells #[.string (⟨#[48, 45, 102, 114, 101, 115, 104, 46, 110, 97, 109, 101]⟩ : ByteArray)] 9) = Wx72 at P72 K72  ⊢
                clear hk72 hg72
                generalize hb72 : wc62.heap.size = gb72 at P72 ⊢
                clear hb72
                refine wpAnyH_ready (rs := [13]) (by kernel_rfl) (by simp) ?_
                refine AllReadyH.cons (o := _) rfl (fun KK hKK => ?_) AllReadyH.nil
                rw [if_pos (by simp [Region.wanted, yielded])]
                go_simp
                have hk73 := Kept.alloc (fun _ => False) Wx72 (.cells #[] 9)
                have E73 := Lib.hid (owns_newS Wx72)
                have K73 := Lib.hid (K72.out.then hk73)
                have B73 : wz.heap.size ≤ Wx72.heap.size := K72.out.size
                have P73 := Lib.hid (P72.out.kept hk73 (fun _ _ h => h))
                have hne73 : gb72 ≠ Wx72.heap.size := by
                  obtain ⟨g9, o9, e9, hl9, _⟩ := P72.out.at (k := 0) (by simp)
                  cases e9
                  omega
                refine hKK.out _ _ (HC.out _ K73.out) (fun _ => ?_)
                clear hKK KK
                try (simp only [Act.put, List.getElem_toArray, List.getElem_cons_succ, List.getElem_cons_zero, List.setIfInBounds_toArray, List.set_cons_zero, List.set_cons_succ])
                generalize hg73 : Wx72.alloc (.cells #[] 9) = Wx73 at E73 K73 P73 ⊢
                clear hk73 hg73
                generalize hb73 : Wx72.heap.size = gb73 at E73 B73 hne73 ⊢
                have EL73 := Lib.hid (E73.out.low B73)
                clear hb73
                refine wpAnyH_ready (rs := [15]) (by kernel_rfl) (by simp) ?_
                refine AllReadyH.cons (o := _) rfl (fun KK hKK => ?_) AllReadyH.nil
                refine step_append_strsG (by simp [Region.wanted, yielded]) _ _ (by rfl) (by rfl) wz.heap.size (.slice (some ⟨gb73, 0, none⟩) 0 0) (vl) ([]) l (by rfl) (by rfl) EL73.out (HLS.out _ K73.out) (by have := HLL.out; simp; omega) (by have := K73.out.size; omega) ?_
                intro a74 c74 w74 ho74 hk74
                generalize ([] ++ l).length = L74 at ho74 ⊢
                have E74 := Lib.hid ho74
                have K74 := Lib.hid (K73.out.trans hk74 (T := fun _ => False) (fun _ _ h => h) (fun i hi e => by have := EL73.out.lt i e; omega))
                have P74 := Lib.hid (P73.out.kept hk74 (fun j hj e => by simp [Value.ownBlock] at e hj; omega))
                clear ho74 hk74
                refine hKK.out _ _ (HC.out _ K74.out) (fun _ => ?_)
                clear hKK KK
                try (simp only [Act.put, List.getElem_toArray, List.getElem_cons_succ, List.getElem_cons_zero, List.setIfInBounds_toArray, List.set_cons_zero, List.set_cons_succ])
                refine wpAnyH_ready (rs := [17]) (by kernel_rfl) (by simp) ?_
                refine AllReadyH.cons (o := _) rfl (fun KK hKK => ?_) AllReadyH.nil
                refine step_append_strsG (by simp [Region.wanted, yielded]) _ _ (by rfl) (by rfl) wz.heap.size (.slice a74 L74 c74) (.slice (some ⟨gb72, 0, none⟩) 1 1) (([] ++ l)) [(⟨#[48, 45, 102, 114, 101, 115, 104, 46, 110, 97, 109, 101]⟩ : ByteArray)] (by rfl) (by rfl) E74.out P74.out (by have := HLL.out; simp; omega) (by have := K74.out.size; omega) ?_
                intro a75 c75 w75 ho75 hk75
                generalize (([] ++ l) ++ [(⟨#[48, 45, 102, 114, 101, 115, 104, 46, 110, 97, 109, 101]⟩ : ByteArray)]).length = L75 at ho75 ⊢
                have E75 := Lib.hid ho75
                have K75 := Lib.hid (K74.out.trans hk75 (T := fun _ => False) (fun _ _ h => h) (fun i hi e => by have := E74.out.lt i e; omega))
                clear ho75 hk75
                refine hKK.out _ _ (HC.out _ K75.out) (fun _ => ?_)
                clear hKK KK
                try (simp only [Act.put, List.getElem_toArray, List.getElem_cons_succ, List.getElem_cons_zero, List.setIfInBounds_toArray, List.set_cons_zero, List.set_cons_succ])
                refine wpAnyH_ready (rs := [18]) (by kernel_rfl) (by simp) ?_
                refine AllReadyH.cons (o := _) rfl (fun KK hKK => ?_) AllReadyH.nil
                go_simp
                go_at_call 28
                refine (HJ.out _ _ (Strs.ofOwn E75.out)).mono ?_
                rintro e wj76 ⟨rfl, rfl⟩
                try go_wp2_with fail
                refine hKK.out _ _ (HC.out _ K75.out) (fun _ => ?_)
                clear hKK KK
                try (simp only [Act.put, List.getElem_toArray, List.getElem_cons_succ, List.getElem_cons_zero, List.setIfInBounds_toArray, List.set_cons_zero, List.set_cons_succ])
                refine wpAnyH_take (i := 19) (v := .bool (!N)) rfl (by kernel_rfl) (by kernel_rfl) (by kernel_rfl) (fun _ _ _ h => h) (Or.inl ⟨by simp [Region.wanted, yielded], fun W hW => by obtain ⟨⟨s0, s1, s2⟩, s3, s4, s5⟩ := hW; go_simp⟩) (HC.out _ K75.out) ?_
                try (simp only [Act.put, List.getElem_toArray, List.getElem_cons_succ, List.getElem_cons_zero, List.setIfInBounds_toArray, List.set_cons_zero, List.set_cons_succ])
                refine wpAnyH_take (i := 20) (v := .bool (!N)) rfl (by kernel_rfl) (by kernel_rfl) (by kernel_rfl) (fun _ _ _ h => h) (Or.inl ⟨by simp [Region.wanted, yielded], fun W hW => by obtain ⟨⟨s0, s1, s2⟩, s3, s4, s5⟩ := hW; go_simp⟩) (HC.out _ K75.out) ?_
                try (simp only [Act.put, List.getElem_toArray, List.getElem_cons_succ, List.getElem_cons_zero, List.setIfInBounds_toArray, List.set_cons_zero, List.set_cons_succ])
                refine wpAnyH_take (i := 21) (v := .bool (!N)) rfl (by kernel_rfl) (by kernel_rfl) (by kernel_rfl) (fun _ _ _ h => h) (Or.inl ⟨by simp [Region.wanted, yielded], fun W hW => by obtain ⟨⟨s0, s1, s2⟩, s3, s4, s5⟩ := hW; go_simp⟩) (HC.out _ K75.out) ?_
                try (simp only [Act.put, List.getElem_toArray, List.getElem_cons_succ, List.getElem_cons_zero, List.setIfInBounds_toArray, List.set_cons_zero, List.set_cons_succ])
                refine wpAnyH_done (by kernel_rfl) ?_ _
                have KF := Lib.hid (K5.out.then K75.out)
                clear HC HJ HCF HLS HLL
                go_wp2_with fail
                go_ret
                exact ⟨rfl, KF.out⟩
end Go.Proofs.YtnnakllgfaaejaaGreatDoor
