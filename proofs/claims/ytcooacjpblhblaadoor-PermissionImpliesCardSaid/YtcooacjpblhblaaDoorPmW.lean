/-
  The reference of permissions: Within, Check, Covers.
-/
import Derived.Test.YtcooacjpblhblaaDoorPmR
import Derived.Test.YtcooacjpblhblaaDoorPmA
import Derived.Test.YtcooacjpblhblaaDoorTkNr
namespace Go.Proofs.YtcooacjpblhblaaDoor
open Go.RowKit
set_option linter.unusedSimpArgs false
set_option linter.unusedVariables false

theorem rsplit_names {w w' : World} {s : ByteArray} {v : Value} {l : List ByteArray} (h : RSplit w w' s v) (hn : namesS s = some l) : Strs w' v l := by
  obtain ⟨xs, h1, _, h2⟩ := h.row
  rw [h2 l hn] at h1
  exact h1
theorem rsplit_form {w w' : World} {s : ByteArray} {v : Value} (h : RSplit w w' s v) : ∃ a n c, v = .slice a n c := by
  obtain ⟨xs, h1, _, h2⟩ := h.row
  obtain ⟨a, c, rfl, _⟩ := h1.form
  exact ⟨a, _, c, rfl⟩

theorem prefix_at {a b : List ByteArray} (hl : b.length ≤ a.length) : b <+: a ↔ ∀ i, i < b.length → b.getD i ⟨#[]⟩ = a.getD i ⟨#[]⟩ := by
  rw [List.prefix_iff_eq_take]
  constructor
  · intro h i hi
    have : b[i]? = (a.take b.length)[i]? := by rw [← h]
    rw [List.getElem?_take_of_lt hi] at this
    rw [List.getD_eq_getElem?_getD, List.getD_eq_getElem?_getD, this]
  · intro h
    apply List.ext_getElem?
    intro i
    by_cases hi : i < b.length
    · have := h i hi
      rw [List.getElem?_take_of_lt hi, List.getElem?_eq_getElem hi, List.getElem?_eq_getElem (by omega)]
      rw [List.getD_eq_getElem?_getD, List.getD_eq_getElem?_getD, List.getElem?_eq_getElem hi, List.getElem?_eq_getElem (by omega)] at this
      exact congrArg some this
    · rw [List.getElem?_eq_none (by omega), List.getElem?_eq_none (by rw [List.length_take]; omega)]

set_option maxRecDepth 100000 in
set_option maxHeartbeats 3200000 in
theorem rwithin_any (q p : ByteArray) (hq : q.size ≤ 100000) (hp : p.size ≤ 100000) (w : World) :
    Calls Tryd.prog 32 #[.string q, .string p] w fun e w' => e = .returned (.bool (withinS p q)) ∧ Kept (fun _ => False) w w' := by
  have HQ := Lib.hid (fun W => psplit_any q hq W)
  have HP := Lib.hid (fun W => psplit_any p hp W)
  obtain ⟨V, hV⟩ : ∃ V, V = withinS p q := ⟨_, rfl⟩
  rw [← hV]
  have HV := Lib.hid hV
  clear hV hq hp
  cases hnq : namesS q with
  | none =>
    rw [hnq] at HQ
    have hv : V = false := by
      rw [HV.out, Bool.eq_false_iff]
      intro h
      obtain ⟨_, b, _, h2, _⟩ := (within_iff _ _).1 h
      rw [hnq] at h2; cases h2
    subst hv
    clear HV hnq
    obtain ⟨bp, hbp⟩ : ∃ bp, bp = (namesS p).isSome := ⟨_, rfl⟩
    rw [← hbp] at HP
    clear hbp
    go_enter Tryd.func32, Tryd.ntmps32
    go_wp2_with fail
    refine (HQ.out _).mono ?_
    rintro e w2 ⟨v2, rfl, h2⟩
    have K2 := Lib.hid h2.kept; clear h2
    go_wp2_with fail
    refine (HP.out _).mono ?_
    rintro e w3 ⟨v3, rfl, h3⟩
    have K3 := Lib.hid (K2.out.then h3.kept); clear h3
    go_wp2_with fail
    go_ret
    exact ⟨rfl, K3.out⟩
  | some b =>
    rw [hnq] at HQ
    cases hnp : namesS p with
    | none =>
      rw [hnp] at HP
      have hv : V = false := by
        rw [HV.out, Bool.eq_false_iff]
        intro h
        obtain ⟨a, _, h1, _, _⟩ := (within_iff _ _).1 h
        rw [hnp] at h1; cases h1
      subst hv
      clear HV hnp
      go_enter Tryd.func32, Tryd.ntmps32
      go_wp2_with fail
      refine (HQ.out _).mono ?_
      rintro e w2 ⟨v2, rfl, h2⟩
      have K2 := Lib.hid h2.kept; clear h2
      go_wp2_with fail
      refine (HP.out _).mono ?_
      rintro e w3 ⟨v3, rfl, h3⟩
      have K3 := Lib.hid (K2.out.then h3.kept); clear h3
      go_wp2_with fail
      go_ret
      exact ⟨rfl, K3.out⟩
    | some a =>
      rw [hnp] at HP
      have hla := (pathS_names hnp).2.2
      have hlb := (pathS_names hnq).2.2
      have hvi : V = true ↔ b <+: a := by
        rw [HV.out, within_iff]
        exact ⟨fun ⟨a', b', h1, h2, h3⟩ => by rw [hnp] at h1; rw [hnq] at h2; cases h1; cases h2; exact h3, fun h => ⟨a, b, hnp, hnq, h⟩⟩
      have HVI := Lib.hid hvi
      have HNP := Lib.hid hnp; have HNQ := Lib.hid hnq
      clear hvi HV hnp hnq
      go_enter Tryd.func32, Tryd.ntmps32
      go_wp2_with fail
      refine (HQ.out _).mono ?_
      rintro e w2 ⟨v2, rfl, h2⟩
      have s2 := rsplit_names h2 HNQ.out
      have K2 := Lib.hid h2.kept; clear h2
      obtain ⟨qa, qc, rfl, hqc, _⟩ := s2.form
      have S2 := Lib.hid s2; clear s2
      go_wp2_with fail
      refine (HP.out _).mono ?_
      rintro e w3 ⟨v3, rfl, h3⟩
      have s3 := rsplit_names h3 HNP.out
      have S2b := Lib.hid (S2.out.kept h3.kept (fun _ _ h => h))
      have K3 := Lib.hid (K2.out.then h3.kept); clear h3
      obtain ⟨pa, pc, rfl, hpc, _⟩ := s3.form
      have S3 := Lib.hid s3; clear s3 S2 K2 HQ HP
      obtain ⟨n, hn⟩ : ∃ n, n = b.length := ⟨_, rfl⟩
      obtain ⟨m, hm⟩ : ∃ m, m = a.length := ⟨_, rfl⟩
      rw [← hn] at S2b hlb hqc ⊢
      rw [← hm] at S3 hla hpc ⊢
      have HN := Lib.hid hn; have HM := Lib.hid hm
      clear hn hm
      by_cases hle : n ≤ m
      · have hgt : ¬ (m : Int) < (n : Int) := by omega
        have HPX := Lib.hid (prefix_at (a := a) (b := b) (by have := HN.out; have := HM.out; omega))
        go_wp2_with fail
        go_loopw [9, 35] (fun _ iv wr => ∃ k : Nat, k ≤ n ∧ iv = .int .i64 (k : Int) ∧ Hid (∀ i, i < k → b.getD i ⟨#[]⟩ = a.getD i ⟨#[]⟩) ∧ Hid (Kept (fun _ => False) w3 wr)) (fun _ iv _ => n - (intOf iv).toNat)
        case atStart => exact ⟨0, Nat.zero_le _, rfl, Lib.hid (fun i hi => absurd hi (by omega)), Lib.hid (Kept.refl _ _)⟩
        case round =>
          obtain ⟨k, hk, rfl, hlo, hkr⟩ := hrel
          by_cases hlt : k < n
          · have l1 : (k : Int) < (n : Int) := by omega
            have l0 : (0 : Int) ≤ (k : Int) := by omega
            have l2 : (k : Int) < (m : Int) := by omega
            obtain ⟨g, off, rfl, _, c0⟩ := (S2b.out.kept hkr.out (fun _ _ h => h)).at (k := k) (by have := HN.out; omega)
            obtain ⟨g', off', rfl, _, c1⟩ := (S3.out.kept hkr.out (fun _ _ h => h)).at (k := k) (by have := HM.out; omega)
            obtain ⟨x, hx⟩ : ∃ x, x = b.getD k ⟨#[]⟩ := ⟨_, rfl⟩
            obtain ⟨y, hy⟩ : ∃ y, y = a.getD k ⟨#[]⟩ := ⟨_, rfl⟩
            rw [← hx] at c0
            rw [← hy] at c1
            have e1 : (x.toList == y.toList) = decide (x = y) := str_eq x y
            have HX := Lib.hid hx; have HY := Lib.hid hy
            clear hx hy
            by_cases hxy : x = y
            · have hnx : Hid (∀ i, i < k + 1 → b.getD i ⟨#[]⟩ = a.getD i ⟨#[]⟩) := Lib.hid fun i hi => by
                rcases Nat.lt_or_ge i k with h | h
                · exact hlo.out i h
                · obtain rfl : i = k := by omega
                  rw [← HX.out, ← HY.out]; exact hxy
              subst hxy
              have e4 : (x.toList != x.toList) = false := by simp
              clear e1 hlo
              go_wp2_with fail
              go_quiet (fail)
              go_wp2_with fail
              go_roundw
              case rel => exact ⟨k + 1, by omega, by go_num, hnx, Lib.hid (hkr.out.drewN _)⟩
              case measure => simp [intOf]; omega
            · have hv : V = false := by
                rw [Bool.eq_false_iff]
                intro h
                have := (HPX.out.1 (HVI.out.1 h)) k (by have := HN.out; omega)
                rw [← HX.out, ← HY.out] at this
                exact hxy this
              have e2 : (x.toList == y.toList) = false := by rw [e1]; simp [hxy]
              have e3 : (x.toList != y.toList) = true := by rw [bne, e2]; rfl
              have e4 : ¬ x.toList = y.toList := by simpa using e2
              subst hv
              clear e1 hlo hxy
              go_wp2_with fail
              go_quiet (fail)
              go_wp2_with fail
              go_ret
              exact ⟨rfl, (K3.out.then hkr.out).drewN _⟩
          · obtain rfl : k = n := by omega
            have hv : V = true := HVI.out.2 (HPX.out.2 fun i hi => hlo.out i (by have := HN.out; omega))
            subst hv
            clear hlo
            go_wp2_with fail
            go_ret
            exact ⟨rfl, K3.out.then hkr.out⟩
      · have hgt : (m : Int) < (n : Int) := by omega
        have hv : V = false := by
          rw [Bool.eq_false_iff]
          intro h
          have := (HVI.out.1 h).length_le
          have := HN.out; have := HM.out
          omega
        subst hv
        go_wp2_with fail
        go_ret
        exact ⟨rfl, K3.out⟩

theorem chkP_split (x : Per) : (validS x.a = false ∧ chkP x = 9) ∨ (validS x.a = true ∧ namesS x.p = none ∧ chkP x = 6) ∨
    (validS x.a = true ∧ ∃ l, namesS x.p = some l ∧ l.length ≤ 8 ∧ ((l.length = 8 ∧ x.d = true ∧ chkP x = 6) ∨ (l.length = 8 ∧ x.d = false ∧ chkP x = 0) ∨ (l.length ≠ 8 ∧ chkP x = 0))) := by
  unfold chkP okP dpS
  cases hv : validS x.a with
  | false => exact Or.inl ⟨rfl, rfl⟩
  | true =>
    right
    cases hn : namesS x.p with
    | none => exact Or.inl ⟨rfl, rfl, rfl⟩
    | some l =>
      right
      refine ⟨rfl, l, rfl, (pathS_names hn).2.2, ?_⟩
      by_cases h8 : l.length = 8
      · cases hd : x.d with
        | false => exact Or.inr (Or.inl ⟨h8, rfl, by simp⟩)
        | true => exact Or.inl ⟨h8, rfl, by simp [h8]⟩
      · exact Or.inr (Or.inr ⟨h8, by simp [h8]⟩)

set_option maxRecDepth 100000 in
set_option maxHeartbeats 3200000 in
theorem rcheck_any (x : Per) (hs : x.p.size ≤ 100000) (w : World) :
    Calls Tryd.prog 12 #[perV x] w fun e w' => e = .returned (.int .i64 (chkP x)) ∧ Kept (fun _ => False) w w' := by
  have HC := Lib.hid (chkP_split x)
  have HV := Lib.hid (fun W => rvalid_any x.a W)
  have HD := Lib.hid (fun W => psplit_any x.p hs W)
  obtain ⟨a, p, d⟩ := x
  unfold perV
  have HB := Lib.hid (Bx.new w a p d 28)
  have HK := Lib.hid (Kept.alloc (fun _ => False) w (.cells #[.string a, .string p, .bool d] 28))
  simp only at HC HV HD
  generalize chkP ⟨a, p, d⟩ = C at *
  generalize validS a = V at *
  clear hs
  go_enter Tryd.func12, Tryd.ntmps12
  go_wp2_with fail
  refine (HV.out _).mono ?_
  generalize w.alloc (.cells #[.string a, .string p, .bool d] 28) = W1 at *
  generalize w.heap.size = Q at *
  rintro e w2 ⟨rfl, k2⟩
  obtain ⟨c0, c1, c2⟩ := HB.out.stay k2
  have HB2 := Lib.hid (HB.out.stay k2)
  have HK2 := Lib.hid (HK.out.then k2)
  clear HB HK k2 HV
  have hc := HC.out
  clear HC
  rcases hc with ⟨rfl, rfl⟩ | ⟨rfl, hn, rfl⟩ | ⟨rfl, l, hn, hl8, hc⟩
  · go_wp2_with fail
    go_ret
    exact ⟨rfl, HK2.out⟩
  · rw [hn] at HD
    clear hn
    go_wp2_with fail
    refine (HD.out _).mono ?_
    rintro e w3 ⟨v3, rfl, h3⟩
    obtain ⟨c0, c1, c2⟩ := HB2.out.stay h3.kept
    have HK3 := Lib.hid (HK2.out.then h3.kept)
    clear h3
    go_wp2_with fail
    go_ret
    exact ⟨rfl, HK3.out⟩
  · rw [hn] at HD
    have HN := Lib.hid hn
    have HC := Lib.hid hc
    clear hn hc
    go_wp2_with fail
    refine (HD.out _).mono ?_
    rintro e w3 ⟨v3, rfl, h3⟩
    obtain ⟨c0, c1, c2⟩ := HB2.out.stay h3.kept
    have HK3 := Lib.hid (HK2.out.then h3.kept)
    obtain ⟨va, vc, rfl, _, _⟩ := (rsplit_names h3 HN.out).form
    clear h3
    have hc := HC.out
    clear HC HN HD HK2 HB2
    generalize l.length = n at hc hl8 ⊢
    rcases hc with ⟨rfl, rfl, rfl⟩ | ⟨rfl, rfl, rfl⟩ | ⟨h8, rfl⟩
    · go_wp2_with fail
      go_ret
      exact ⟨rfl, HK3.out⟩
    · go_wp2_with fail
      go_ret
      exact ⟨rfl, HK3.out⟩
    · have h8i : ¬ (n : Int) = 8 := by omega
      have h8b : ((n : Int) == 8) = false := beq_eq_false_iff_ne.2 h8i
      cases d <;>
      · go_wp2_with fail
        go_ret
        exact ⟨rfl, HK3.out⟩

theorem covP_eq (x : Per) (a s : ByteArray) : covP x a s = (okP x && (namesS s).isSome && decide (a = x.a) && (decide (s = x.p) || (x.d && withinS s x.p))) := by
  unfold covP
  rw [Bool.eq_iff_iff, impP_iff, okP_req]
  simp only [Bool.and_eq_true, Bool.or_eq_true, decide_eq_true_eq]
  constructor
  · rintro ⟨h1, ⟨h2, h3⟩, h4⟩
    rcases h4 with e | ⟨h5, h6, h7⟩
    · have e1 : x.a = a := by rw [e]
      have e2 : x.p = s := by rw [e]
      exact ⟨⟨⟨h1, h3⟩, e1.symm⟩, Or.inl e2.symm⟩
    · exact ⟨⟨⟨h1, h3⟩, h6.symm⟩, Or.inr ⟨h5, h7⟩⟩
  · rintro ⟨⟨⟨h1, h3⟩, h6⟩, h4⟩
    refine ⟨h1, ⟨by rw [h6]; exact okP_name h1, h3⟩, ?_⟩
    rcases h4 with e | ⟨h5, h7⟩
    · cases hd : x.d with
      | false => exact Or.inl (per_ext h6.symm e.symm hd)
      | true => exact Or.inr ⟨rfl, h6.symm, by rw [e]; exact within_refl (by rw [← e]; exact h3)⟩
    · exact Or.inr ⟨h5, h6.symm, h7⟩

set_option maxRecDepth 100000 in
set_option maxHeartbeats 3200000 in
theorem rcov_any (x : Per) (b s : ByteArray) (hx : x.p.size ≤ 100000) (hs : s.size ≤ 100000) (w : World) :
    Calls Tryd.prog 16 #[perV x, .string b, .string s] w fun e w' => e = .returned (.bool (covP x b s)) ∧ Kept (fun _ => False) w w' := by
  have HS := Lib.hid (fun W => psplit_any s hs W)
  have HC := Lib.hid (fun W => rcheck_any x hx W)
  have HW := Lib.hid (fun W => rwithin_any x.p s hx hs W)
  have hz := chkP_zero x
  obtain ⟨V, hV⟩ : ∃ V, V = covP x b s := ⟨_, rfl⟩
  rw [← hV]
  rw [covP_eq] at hV
  obtain ⟨a, p, d⟩ := x
  unfold perV at *
  simp only at hV HW
  have HB := Lib.hid (Bx.new w a p d 28)
  have HK := Lib.hid (Kept.alloc (fun _ => False) w (.cells #[.string a, .string p, .bool d] 28))
  have e1 : (b.toList == a.toList) = decide (b = a) := str_eq b a
  have e2 : (s.toList == p.toList) = decide (s = p) := str_eq s p
  have n1 : (b.toList != a.toList) = !decide (b = a) := by rw [bne, e1]
  generalize decide (b = a) = E1 at *
  generalize decide (s = p) = E2 at *
  generalize (namesS s).isSome = NS at *
  generalize withinS s p = WI at *
  have hcz : (chkP ⟨a, p, d⟩ != 0) = !okP ⟨a, p, d⟩ := by
    rw [bne]
    congr 1
    rw [Bool.eq_iff_iff, ← hz]; simp
  have hce : (chkP ⟨a, p, d⟩ == 0) = okP ⟨a, p, d⟩ := by rw [Bool.eq_iff_iff, ← hz]; simp
  generalize chkP ⟨a, p, d⟩ = C at *
  generalize okP ⟨a, p, d⟩ = O at *
  have HV := Lib.hid hV
  clear hV hz hx hs
  go_enter Tryd.func16, Tryd.ntmps16
  go_wp2_with fail
  refine (HS.out _).mono ?_
  generalize w.alloc (.cells #[.string a, .string p, .bool d] 28) = W1 at *
  generalize w.heap.size = Q at *
  rintro e w2 ⟨v2, rfl, h2⟩
  obtain ⟨c0, c1, c2⟩ := HB.out.stay h2.kept
  have HB2 := Lib.hid (HB.out.stay h2.kept)
  have HK2 := Lib.hid (HK.out.then h2.kept)
  clear h2 HB HK HS
  go_wp2_with fail
  refine (HC.out _).mono ?_
  rintro e w3 ⟨rfl, k3⟩
  obtain ⟨c0, c1, c2⟩ := HB2.out.stay k3
  have HK3 := Lib.hid (HK2.out.then k3)
  clear k3 HB2 HC HK2
  cases O with
  | false =>
    have hv : V = false := by rw [HV.out]; rfl
    subst hv
    clear HV
    go_wp2_with fail
    all_goals (go_ret; exact ⟨rfl, HK3.out⟩)
  | true =>
    cases NS with
    | false =>
      have hv : V = false := by rw [HV.out]; rfl
      subst hv
      clear HV
      go_wp2_with fail
      all_goals (go_ret; exact ⟨rfl, HK3.out⟩)
    | true =>
      cases E1 with
      | false =>
        have hv : V = false := by rw [HV.out]; rfl
        subst hv
        clear HV
        go_wp2_with fail
        all_goals (go_ret; exact ⟨rfl, HK3.out⟩)
      | true =>
        cases E2 with
        | true =>
          have hv : V = true := by rw [HV.out]; rfl
          subst hv
          clear HV
          go_wp2_with fail
          all_goals (go_ret; exact ⟨rfl, HK3.out⟩)
        | false =>
          cases d with
          | false =>
            have hv : V = false := by rw [HV.out]; rfl
            subst hv
            clear HV
            go_wp2_with fail
            all_goals (go_ret; exact ⟨rfl, HK3.out⟩)
          | true =>
            have hv : V = WI := by rw [HV.out]; simp
            subst hv
            clear HV
            go_wp2_with fail
            refine (HW.out _).mono ?_
            rintro e w4 ⟨rfl, k4⟩
            have HK4 := Lib.hid (HK3.out.then k4)
            clear k4
            go_wp2_with fail
            go_ret
            exact ⟨rfl, HK4.out⟩
end Go.Proofs.YtcooacjpblhblaaDoor
