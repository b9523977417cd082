/-
  Permissions: Check, valid, Implies, Covers, Compare.
-/
import Derived.Test.YtnnakllgfaaejaaGreatDoorPmE
import Derived.Test.YtnnakllgfaaejaaGreatDoorNamU
namespace Go.Proofs.YtnnakllgfaaejaaGreatDoor
open Go.RowKit Go.Sort
set_option linter.unusedSimpArgs false
set_option linter.unusedVariables false

theorem boxQ (w : World) (a p : ByteArray) (d : Bool) (T : TypeId) : (w.alloc (.cells #[.string a, .string p, .bool d] T)).cell? ⟨w.heap.size, 0, none⟩ = some (.string a) ∧
    (w.alloc (.cells #[.string a, .string p, .bool d] T)).cell? ⟨w.heap.size, 1, none⟩ = some (.string p) ∧ (w.alloc (.cells #[.string a, .string p, .bool d] T)).cell? ⟨w.heap.size, 2, none⟩ = some (.bool d) := by
  refine ⟨?_, ?_, ?_⟩ <;> go_simp
/-- A permission in a block of its own. -/
structure Bx (w : World) (g : Nat) (a p : ByteArray) (d : Bool) : Prop where
  c0 : w.cell? ⟨g, 0, none⟩ = some (.string a)
  c1 : w.cell? ⟨g, 1, none⟩ = some (.string p)
  c2 : w.cell? ⟨g, 2, none⟩ = some (.bool d)
theorem Bx.kept {S : Nat → Prop} {u w : World} {g : Nat} {a p : ByteArray} {d : Bool} (h : Bx u g a p d) (hk : Kept S u w) (hS : ¬ S g) : Bx w g a p d :=
  ⟨(hk.cell (World.block_lt_of_cell? u _ h.c0) hS).trans h.c0, (hk.cell (World.block_lt_of_cell? u _ h.c1) hS).trans h.c1, (hk.cell (World.block_lt_of_cell? u _ h.c2) hS).trans h.c2⟩
theorem Bx.stay {u w : World} {g : Nat} {a p : ByteArray} {d : Bool} (h : Bx u g a p d) (hk : Kept (fun _ => False) u w) : Bx w g a p d := h.kept hk (fun h => h)
theorem Bx.new (w : World) (a p : ByteArray) (d : Bool) (T : TypeId) : Bx (w.alloc (.cells #[.string a, .string p, .bool d] T)) w.heap.size a p d :=
  ⟨(boxQ w a p d T).1, (boxQ w a p d T).2.1, (boxQ w a p d T).2.2⟩

set_option maxRecDepth 100000 in
theorem pvalidg_any (s : ByteArray) (hs : s.size ≤ 1000000) (w : World) :
    Calls Tryz.prog 66 #[.string s] w fun e w' => e = .returned (.bool (namesS s).isSome) ∧ ∃ os, w' = grow w os := by
  have hc := split_any s hs
  obtain ⟨b, hb⟩ : ∃ b, b = (namesS s).isSome := ⟨_, rfl⟩
  rw [← hb] at hc ⊢
  have HC := Lib.hid hc
  clear hc hb
  go_enter Tryz.func66, Tryz.ntmps66
  go_wp2_with fail
  refine (HC.out _).mono ?_
  rintro e w' ⟨v, rfl, hr⟩
  have HR := Lib.hid hr
  clear hr
  go_wp2_with fail
  go_ret
  exact ⟨rfl, HR.out.gr⟩

theorem depthS_val (s : ByteArray) : ((namesS s).isSome = false ∧ depthS s = -1) ∨ ((namesS s).isSome = true ∧ depthS s = (dpS s : Int)) := by
  unfold depthS dpS
  cases namesS s with
  | none => exact Or.inl ⟨rfl, rfl⟩
  | some l => exact Or.inr ⟨rfl, rfl⟩
theorem chkP_cases (x : Per) : (validS x.a = false ∧ chkP x = 9) ∨ (validS x.a = true ∧ depthS x.p = -1 ∧ chkP x = 6) ∨
    (validS x.a = true ∧ depthS x.p = 8 ∧ x.d = true ∧ chkP x = 6) ∨ (validS x.a = true ∧ depthS x.p = 8 ∧ x.d = false ∧ chkP x = 0) ∨
    (validS x.a = true ∧ 0 ≤ depthS x.p ∧ depthS x.p ≠ 8 ∧ chkP x = 0) := by
  unfold chkP okP
  cases hv : validS x.a with
  | false => exact Or.inl ⟨rfl, rfl⟩
  | true =>
    rcases depthS_val x.p with ⟨h1, h2⟩ | ⟨h1, h2⟩
    · exact Or.inr (Or.inl ⟨rfl, h2, by rw [h1]; rfl⟩)
    · rw [h1, h2]
      by_cases h8 : dpS x.p = 8
      · cases hd : x.d with
        | false => exact Or.inr (Or.inr (Or.inr (Or.inl ⟨rfl, by omega, rfl, by simp⟩)))
        | true => exact Or.inr (Or.inr (Or.inl ⟨rfl, by omega, rfl, by simp [h8]⟩))
      · exact Or.inr (Or.inr (Or.inr (Or.inr ⟨rfl, by omega, by omega, by simp [h8]⟩)))

set_option maxRecDepth 100000 in
set_option maxHeartbeats 3200000 in
theorem pcheck_any (x : Per) (hs : x.p.size ≤ 1000000) (w : World) :
    Calls Tryz.prog 51 #[perV x] w fun e w' => e = .returned (.int .i64 (chkP x)) ∧ Kept (fun _ => False) w w' := by
  have HC := Lib.hid (chkP_cases x)
  have HV := Lib.hid (fun W => valid_any x.a W)
  have HD := Lib.hid (fun W => pdepth_any x.p hs W)
  obtain ⟨a, p, d⟩ := x
  unfold perV
  have HB := Lib.hid (Bx.new w a p d 35)
  have HK := Lib.hid (Kept.alloc (fun _ => False) w (.cells #[.string a, .string p, .bool d] 35))
  simp only at HC HV HD
  generalize chkP ⟨a, p, d⟩ = C at *
  generalize depthS p = D at *
  generalize validS a = V at *
  clear hs
  go_enter Tryz.func51, Tryz.ntmps51
  go_wp2_with fail
  refine (HV.out _).mono ?_
  generalize w.alloc (.cells #[.string a, .string p, .bool d] 35) = W1 at *
  generalize w.heap.size = Q at *
  rintro e w2 ⟨rfl, k2⟩
  obtain ⟨c0, c1, c2⟩ := HB.out.stay k2
  have HB2 := Lib.hid (HB.out.stay k2)
  have HK2 := Lib.hid (HK.out.then k2)
  clear HB HK k2 HV
  have hc := HC.out
  clear HC
  rcases hc with ⟨rfl, rfl⟩ | hc
  · go_wp2_with fail
    go_ret
    exact ⟨rfl, HK2.out⟩
  · obtain ⟨rfl⟩ : V = true := by rcases hc with ⟨h, _⟩ | ⟨h, _⟩ | ⟨h, _⟩ | ⟨h, _⟩ <;> exact h
    have HC := Lib.hid hc
    clear hc
    go_wp2_with fail
    refine (HD.out _).mono ?_
    rintro e w3 ⟨rfl, k3⟩
    obtain ⟨c0, c1, c2⟩ := HB2.out.stay k3
    have HK3 := Lib.hid (HK2.out.then k3)
    clear k3 HD
    have hc := HC.out
    clear HC
    rcases hc with ⟨_, rfl, rfl⟩ | ⟨_, rfl, rfl, rfl⟩ | ⟨_, rfl, rfl, rfl⟩ | ⟨_, h1, h2, rfl⟩
    · go_wp2_with fail
      go_ret
      exact ⟨rfl, HK3.out⟩
    · go_wp2_with fail
      go_ret
      exact ⟨rfl, HK3.out⟩
    · go_wp2_with fail
      go_ret
      exact ⟨rfl, HK3.out⟩
    · have h3 : ¬ D < 0 := by omega
      have h4 : (D == 8) = false := beq_eq_false_iff_ne.2 h2
      cases d <;>
      · go_wp2_with fail
        go_ret
        exact ⟨rfl, HK3.out⟩

set_option maxRecDepth 100000 in
set_option maxHeartbeats 3200000 in
theorem pok_any (x : Per) (hs : x.p.size ≤ 1000000) (w : World) :
    Calls Tryz.prog 38 #[perV x] w fun e w' => e = .returned (.bool (okP x)) ∧ Kept (fun _ => False) w w' := by
  have HC := Lib.hid (fun W => pcheck_any x hs W)
  have hz := chkP_zero x
  have he : (chkP x == 0) = okP x := by
    rw [Bool.eq_iff_iff, ← hz]; simp
  obtain ⟨a, p, d⟩ := x
  unfold perV at *
  have HK := Lib.hid (Kept.alloc (fun _ => False) w (.cells #[.string a, .string p, .bool d] 35))
  generalize chkP ⟨a, p, d⟩ = C at *
  generalize okP ⟨a, p, d⟩ = B at *
  subst he
  clear hs hz
  go_enter Tryz.func38, Tryz.ntmps38
  go_wp2_with fail
  refine (HC.out _).mono ?_
  rintro e w2 ⟨rfl, k2⟩
  have HK2 := Lib.hid (HK.out.then k2)
  clear k2 HK
  go_wp2_with fail
  go_ret
  exact ⟨rfl, HK2.out⟩

set_option maxRecDepth 100000 in
set_option maxHeartbeats 3200000 in
theorem pimp_any (x y : Per) (hx : x.p.size ≤ 1000000) (hy : y.p.size ≤ 1000000) (w : World) :
    Calls Tryz.prog 37 #[perV x, perV y] w fun e w' => e = .returned (.bool (impP x y)) ∧ Kept (fun _ => False) w w' := by
  have HX := Lib.hid (fun W => pok_any x hx W)
  have HY := Lib.hid (fun W => pok_any y hy W)
  have HWI := Lib.hid (fun W => within_any y.p x.p hy hx W)
  obtain ⟨V, hV⟩ : ∃ V, V = impP x y := ⟨_, rfl⟩
  rw [← hV]
  unfold impP at hV
  have hxy : decide (x = y) = (decide (x.a = y.a) && decide (x.p = y.p) && decide (x.d = y.d)) := by
    rw [Bool.eq_iff_iff]; simp only [Bool.and_eq_true, decide_eq_true_eq]
    exact ⟨fun e => by rw [e]; exact ⟨⟨rfl, rfl⟩, rfl⟩, fun ⟨⟨h1, h2⟩, h3⟩ => by cases x; cases y; simp_all⟩
  rw [hxy] at hV
  obtain ⟨a, p, d⟩ := x
  obtain ⟨b, q, f⟩ := y
  unfold perV at *
  simp only at hV HWI hxy
  clear hx hy hxy
  generalize okP ⟨a, p, d⟩ = O1 at *
  generalize okP ⟨b, q, f⟩ = O2 at *
  generalize withinS q p = WI at *
  have e1 : (a.toList == b.toList) = decide (a = b) := str_eq a b
  have e2 : (p.toList == q.toList) = decide (p = q) := str_eq p q
  generalize decide (a = b) = E1 at *
  generalize decide (p = q) = E2 at *
  have HB2 := Lib.hid (Bx.new (w.alloc (.cells #[.string a, .string p, .bool d] 35)) b q f 35)
  have HB1 := Lib.hid ((Bx.new w a p d 35).stay (Kept.alloc (fun _ => False) _ (.cells #[.string b, .string q, .bool f] 35)))
  have HK := Lib.hid ((Kept.alloc (fun _ => False) w (.cells #[.string a, .string p, .bool d] 35)).then (Kept.alloc (fun _ => False) _ (.cells #[.string b, .string q, .bool f] 35)))
  have hq : (w.alloc (.cells #[.string a, .string p, .bool d] 35)).heap.size = w.heap.size + 1 := by simp
  rw [hq] at HB2
  have HV := Lib.hid hV
  clear hV hq
  go_enter Tryz.func37, Tryz.ntmps37
  go_wp2_with fail
  refine (HX.out _).mono ?_
  generalize (w.alloc (.cells #[.string a, .string p, .bool d] 35)).alloc (.cells #[.string b, .string q, .bool f] 35) = W1 at *
  generalize w.heap.size = Q at *
  rintro e w2 ⟨rfl, k2⟩
  obtain ⟨c0, c1, c2⟩ := HB1.out.stay k2
  obtain ⟨b0, b1, b2⟩ := HB2.out.stay k2
  have HC1 := Lib.hid (HB1.out.stay k2)
  have HC2 := Lib.hid (HB2.out.stay k2)
  have HK2 := Lib.hid (HK.out.then k2)
  clear HB1 HB2 HK k2 HX
  cases O1 with
  | false =>
    have hv : V = false := by rw [HV.out]; rfl
    subst hv
    go_wp2_with fail
    go_ret
    exact ⟨rfl, HK2.out⟩
  | true =>
    go_wp2_with fail
    refine (HY.out _).mono ?_
    rintro e w3 ⟨rfl, k3⟩
    obtain ⟨c0, c1, c2⟩ := HC1.out.stay k3
    obtain ⟨b0, b1, b2⟩ := HC2.out.stay k3
    have HK3 := Lib.hid (HK2.out.then k3)
    clear k3 HY HC1 HC2 HK2
    cases O2 with
    | false =>
      have hv : V = false := by rw [HV.out]; rfl
      subst hv
      go_wp2_with fail
      go_ret
      exact ⟨rfl, HK3.out⟩
    | true =>
      have HK4 : Hid (∀ W4, Kept (fun _ => False) w3 W4 → Kept (fun _ => False) w W4) := Lib.hid fun W4 k4 => HK3.out.then k4
      go_wp2_with (first | (go_at_call 50; refine (HWI.out _).mono ?_; rintro e w4 ⟨rfl, k4⟩; have HK5 := Lib.hid (HK4.out _ k4); clear k4))
      all_goals (go_ret; refine ⟨?_, by first | exact HK5.out | exact HK3.out⟩; have hv := HV.out; clear HV HWI HK3 HK4; simp_all)

theorem okP_req (a s : ByteArray) : okP ⟨a, s, false⟩ = (validS a && (namesS s).isSome) := by unfold okP; simp

set_option maxRecDepth 100000 in
set_option maxHeartbeats 3200000 in
theorem pcov_any (x : Per) (a s : ByteArray) (hx : x.p.size ≤ 1000000) (hs : s.size ≤ 1000000) (w : World) :
    Calls Tryz.prog 21 #[perV x, .string a, .string s] w fun e w' => e = .returned (.bool (covP x a s)) ∧ Kept (fun _ => False) w w' := by
  have HI := Lib.hid (fun W => pimp_any x ⟨a, s, false⟩ hx hs W)
  unfold covP
  generalize impP x ⟨a, s, false⟩ = V at *
  obtain ⟨b, p, d⟩ := x
  unfold perV at *
  have HK := Lib.hid (Kept.alloc (fun _ => False) w (.cells #[.string b, .string p, .bool d] 35))
  clear hx hs
  go_enter Tryz.func21, Tryz.ntmps21
  go_wp2_with fail
  refine (HI.out _).mono ?_
  rintro e w2 ⟨rfl, k2⟩
  have HK2 := Lib.hid (HK.out.then k2)
  clear k2
  go_wp2_with fail
  go_ret
  exact ⟨rfl, HK2.out⟩

theorem cmpT_cases (a b : ByteArray) : ((namesS a).isSome = true ∧ (namesS b).isSome = true ∧ cmpT a b = compareS a b) ∨ ((namesS a).isSome = true ∧ (namesS b).isSome = false ∧ cmpT a b = cmpB a b) ∨ ((namesS a).isSome = false ∧ cmpT a b = cmpB a b) := by
  unfold cmpT compareS
  cases namesS a with
  | none => exact Or.inr (Or.inr ⟨rfl, rfl⟩)
  | some x =>
    cases namesS b with
    | none => exact Or.inr (Or.inl ⟨rfl, rfl, rfl⟩)
    | some y => exact Or.inl ⟨rfl, rfl, rfl⟩

set_option maxRecDepth 100000 in
set_option maxHeartbeats 3200000 in
theorem pcmpt_any (a b : ByteArray) (ha : a.size ≤ 1000000) (hb : b.size ≤ 1000000) (w : World) :
    Calls Tryz.prog 44 #[.string a, .string b] w fun e w' => e = .returned (.int .i64 (cmpT a b)) ∧ ∃ os, w' = grow w os := by
  have HA := Lib.hid (fun W => pvalidg_any a ha W)
  have HB := Lib.hid (fun W => pvalidg_any b hb W)
  have HP := Lib.hid (fun W => compare_any a b ha hb W)
  have HS := Lib.hid (fun W => sh_Cmp a b W)
  have hc := cmpT_cases a b
  have hcb : Lib.compareBytes a.data.toList b.data.toList = cmpB a b := rfl
  rw [hcb] at HS
  generalize cmpT a b = C at *
  generalize cmpB a b = CB at *
  generalize compareS a b = CS at *
  generalize (namesS a).isSome = A1 at *
  generalize (namesS b).isSome = B1 at *
  clear ha hb hcb
  rcases hc with ⟨rfl, rfl, rfl⟩ | ⟨rfl, rfl, rfl⟩ | ⟨rfl, rfl⟩
  · go_enter Tryz.func44, Tryz.ntmps44
    go_wp2_with fail
    refine (HA.out _).mono ?_
    rintro e w1 ⟨rfl, g1⟩
    have G1 := Lib.hid g1; clear g1
    go_wp2_with fail
    refine (HB.out _).mono ?_
    rintro e w2 ⟨rfl, g2⟩
    have G2 := Lib.hid g2; clear g2
    go_wp2_with fail
    refine (HP.out _).mono ?_
    rintro e w3 ⟨rfl, k3, g3⟩
    have G3 := Lib.hid g3; clear g3
    go_wp2_with fail
    go_ret
    exact ⟨rfl, grow_then G1.out (grow_then G2.out G3.out)⟩
  · go_enter Tryz.func44, Tryz.ntmps44
    go_wp2_with fail
    refine (HA.out _).mono ?_
    rintro e w1 ⟨rfl, g1⟩
    have G1 := Lib.hid g1; clear g1
    go_wp2_with fail
    refine (HB.out _).mono ?_
    rintro e w2 ⟨rfl, g2⟩
    have G2 := Lib.hid g2; clear g2
    go_wp2_with fail
    refine (HS.out _).mono ?_
    rintro e w3 ⟨rfl, rfl⟩
    go_wp2_with fail
    go_ret
    exact ⟨rfl, grow_then G1.out G2.out⟩
  · go_enter Tryz.func44, Tryz.ntmps44
    go_wp2_with fail
    refine (HA.out _).mono ?_
    rintro e w1 ⟨rfl, g1⟩
    have G1 := Lib.hid g1; clear g1
    go_wp2_with fail
    refine (HS.out _).mono ?_
    rintro e w3 ⟨rfl, rfl⟩
    go_wp2_with fail
    go_ret
    exact ⟨rfl, G1.out⟩

theorem cmpP_cases (x y : Per) : (x.a ≠ y.a ∧ cmpP x y = cmpB x.a y.a) ∨ (x.a = y.a ∧ x.p ≠ y.p ∧ cmpP x y = cmpT x.p y.p) ∨
    (x.a = y.a ∧ x.p = y.p ∧ ((x.d = y.d ∧ cmpP x y = 0) ∨ (x.d = false ∧ y.d = true ∧ cmpP x y = -1) ∨ (x.d = true ∧ y.d = false ∧ cmpP x y = 1))) := by
  unfold cmpP
  by_cases h1 : x.a = y.a
  · right
    by_cases h2 : x.p = y.p
    · right
      rw [if_neg (fun h => h h1), if_neg (fun h => h h2)]
      refine ⟨h1, h2, ?_⟩
      cases x.d <;> cases y.d <;> simp
    · left
      rw [if_neg (fun h => h h1), if_pos h2]
      exact ⟨h1, h2, rfl⟩
  · left
    rw [if_pos h1]
    exact ⟨h1, rfl⟩
theorem grow_two (w : World) (o1 o2 : Obj) : ∃ os, (w.alloc o1).alloc o2 = grow w os := ⟨_, by rw [alloc_eq_grow, alloc_eq_grow, grow_grow]⟩

set_option maxRecDepth 100000 in
set_option maxHeartbeats 3200000 in
theorem pcmp_any (x y : Per) (hx : x.p.size ≤ 1000000) (hy : y.p.size ≤ 1000000) (w : World) :
    Calls Tryz.prog 27 #[perV x, perV y] w fun e w' => e = .returned (.int .i64 (cmpP x y)) ∧ ∃ os, w' = grow w os := by
  have HT := Lib.hid (fun W => pcmpt_any x.p y.p hx hy W)
  have HS := Lib.hid (fun W => sh_Cmp x.a y.a W)
  have hcb : Lib.compareBytes x.a.data.toList y.a.data.toList = cmpB x.a y.a := rfl
  rw [hcb] at HS
  have hc := cmpP_cases x y
  obtain ⟨a, p, d⟩ := x
  obtain ⟨b, q, f⟩ := y
  unfold perV at *
  simp only at hc HT HS
  have e1 : (a.toList == b.toList) = decide (a = b) := str_eq a b
  have e2 : (p.toList == q.toList) = decide (p = q) := str_eq p q
  have n1 : (a.toList != b.toList) = !decide (a = b) := by rw [bne, e1]
  have n2 : (p.toList != q.toList) = !decide (p = q) := by rw [bne, e2]
  clear hcb
  generalize cmpP ⟨a, p, d⟩ ⟨b, q, f⟩ = C at *
  generalize cmpB a b = CB at *
  generalize cmpT p q = CT at *
  have HG := Lib.hid (grow_two w (.cells #[.string a, .string p, .bool d] 35) (.cells #[.string b, .string q, .bool f] 35))
  clear hx hy
  rcases hc with ⟨h1, rfl⟩ | ⟨h1, h2, rfl⟩ | ⟨h1, h2, hc⟩
  · have e1 : (a.toList == b.toList) = false := by rw [e1]; simp [h1]
    have n1 : (a.toList != b.toList) = true := by rw [n1]; simp [h1]
    have t1 : ¬ a.toList = b.toList := by simpa using e1
    clear e2 n2
    go_enter Tryz.func27, Tryz.ntmps27
    go_wp2_with fail
    refine (HS.out _).mono ?_
    rintro e w2 ⟨rfl, rfl⟩
    go_wp2_with fail
    go_ret
    exact ⟨rfl, HG.out⟩
  · subst h1
    have e2 : (p.toList == q.toList) = false := by rw [e2]; simp [h2]
    have n2 : (p.toList != q.toList) = true := by rw [n2]; simp [h2]
    have t2 : ¬ p.toList = q.toList := by simpa using e2
    clear e1 n1
    go_enter Tryz.func27, Tryz.ntmps27
    go_wp2_with fail
    refine (HT.out _).mono ?_
    rintro e w2 ⟨rfl, g2⟩
    have G2 := Lib.hid (grow_then HG.out g2)
    clear g2
    go_wp2_with fail
    go_ret
    exact ⟨rfl, G2.out⟩
  · subst h1; subst h2
    clear e1 e2 n1 n2
    rcases hc with ⟨rfl, rfl⟩ | ⟨rfl, rfl, rfl⟩ | ⟨rfl, rfl, rfl⟩
    all_goals (try cases d)
    all_goals go_enter Tryz.func27, Tryz.ntmps27
    all_goals go_wp2_with fail
    all_goals go_ret
    all_goals exact ⟨rfl, HG.out⟩
end Go.Proofs.YtnnakllgfaaejaaGreatDoor
