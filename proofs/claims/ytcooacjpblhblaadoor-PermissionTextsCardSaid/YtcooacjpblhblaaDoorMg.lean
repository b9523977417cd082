/- The first texts of this claim, one behind the other. -/
import Derived.Test.YtcooacjpblhblaaDoorPmR
import Derived.Test.YtcooacjpblhblaaDoorPmA
import Derived.Test.YtcooacjpblhblaaDoorTkNr
import Derived.Test.YtcooacjpblhblaaDoorPmMk
import Derived.Test.YtcooacjpblhblaaDoorPmT
import Derived.Shelf.Strings.Cut
import Derived.Shelf.Strings.Search3
import Derived.Lib.CutLaws
import Derived.Deep.Cut
import Derived.Deep.CutRange
import Derived.Test.YtcooacjpblhblaaDoorPmAw
import Derived.Test.YtcooacjpblhblaaDoorPaLo
import Derived.OpenShut
import Derived.ChangeMaps5
import Derived.Lib.SmallJoins
import Derived.Test.YtcooacjpblhblaaDoorArgIn
/-
  The reference of permissions: Within, Check, Covers.
-/
namespace Go.Proofs.YtcooacjpblhblaaDoor
open Go.RowKit
set_option linter.unusedSimpArgs false
set_option linter.unusedVariables false

theorem rsplit_names {w w' : World} {s : ByteArray} {v : Value} {l : List ByteArray} (h : RSplit w w' s v) (hn : namesS s = some l) : Strs w' v l := by
  obtain ⟨xs, h1, _, h2⟩ := h.row
  rw [h2 l hn] at h1
  exact h1
theorem rsplit_form {w w' : World} {s : ByteArray} {v : Value} (h : RSplit w w' s v) : ∃ a n c, v = .slice a n c := by
  obtain ⟨xs, h1, _, h2⟩ := h.row
  obtain ⟨a, c, rfl, _⟩ := h1.form
  exact ⟨a, _, c, rfl⟩

theorem prefix_at {a b : List ByteArray} (hl : b.length ≤ a.length) : b <+: a ↔ ∀ i, i < b.length → b.getD i ⟨#[]⟩ = a.getD i ⟨#[]⟩ := by
  rw [List.prefix_iff_eq_take]
  constructor
  · intro h i hi
    have : b[i]? = (a.take b.length)[i]? := by rw [← h]
    rw [List.getElem?_take_of_lt hi] at this
    rw [List.getD_eq_getElem?_getD, List.getD_eq_getElem?_getD, this]
  · intro h
    apply List.ext_getElem?
    intro i
    by_cases hi : i < b.length
    · have := h i hi
      rw [List.getElem?_take_of_lt hi, List.getElem?_eq_getElem hi, List.getElem?_eq_getElem (by omega)]
      rw [List.getD_eq_getElem?_getD, List.getD_eq_getElem?_getD, List.getElem?_eq_getElem hi, List.getElem?_eq_getElem (by omega)] at this
      exact congrArg some this
    · rw [List.getElem?_eq_none (by omega), List.getElem?_eq_none (by rw [List.length_take]; omega)]

set_option maxRecDepth 100000 in
set_option maxHeartbeats 3200000 in
theorem rwithin_any (q p : ByteArray) (hq : q.size ≤ 100000) (hp : p.size ≤ 100000) (w : World) :
    Calls Tryd.prog 32 #[.string q, .string p] w fun e w' => e = .returned (.bool (withinS p q)) ∧ Kept (fun _ => False) w w' := by
  have HQ := Lib.hid (fun W => psplit_any q hq W)
  have HP := Lib.hid (fun W => psplit_any p hp W)
  obtain ⟨V, hV⟩ : ∃ V, V = withinS p q := ⟨_, rfl⟩
  rw [← hV]
  have HV := Lib.hid hV
  clear hV hq hp
  cases hnq : namesS q with
  | none =>
    rw [hnq] at HQ
    have hv : V = false := by
      rw [HV.out, Bool.eq_false_iff]
      intro h
      obtain ⟨_, b, _, h2, _⟩ := (within_iff _ _).1 h
      rw [hnq] at h2; cases h2
    subst hv
    clear HV hnq
    obtain ⟨bp, hbp⟩ : ∃ bp, bp = (namesS p).isSome := ⟨_, rfl⟩
    rw [← hbp] at HP
    clear hbp
    go_enter Tryd.func32, Tryd.ntmps32
    go_wp2_with fail
    refine (HQ.out _).mono ?_
    rintro e w2 ⟨v2, rfl, h2⟩
    have K2 := Lib.hid h2.kept; clear h2
    go_wp2_with fail
    refine (HP.out _).mono ?_
    rintro e w3 ⟨v3, rfl, h3⟩
    have K3 := Lib.hid (K2.out.then h3.kept); clear h3
    go_wp2_with fail
    go_ret
    exact ⟨rfl, K3.out⟩
  | some b =>
    rw [hnq] at HQ
    cases hnp : namesS p with
    | none =>
      rw [hnp] at HP
      have hv : V = false := by
        rw [HV.out, Bool.eq_false_iff]
        intro h
        obtain ⟨a, _, h1, _, _⟩ := (within_iff _ _).1 h
        rw [hnp] at h1; cases h1
      subst hv
      clear HV hnp
      go_enter Tryd.func32, Tryd.ntmps32
      go_wp2_with fail
      refine (HQ.out _).mono ?_
      rintro e w2 ⟨v2, rfl, h2⟩
      have K2 := Lib.hid h2.kept; clear h2
      go_wp2_with fail
      refine (HP.out _).mono ?_
      rintro e w3 ⟨v3, rfl, h3⟩
      have K3 := Lib.hid (K2.out.then h3.kept); clear h3
      go_wp2_with fail
      go_ret
      exact ⟨rfl, K3.out⟩
    | some a =>
      rw [hnp] at HP
      have hla := (pathS_names hnp).2.2
      have hlb := (pathS_names hnq).2.2
      have hvi : V = true ↔ b <+: a := by
        rw [HV.out, within_iff]
        exact ⟨fun ⟨a', b', h1, h2, h3⟩ => by rw [hnp] at h1; rw [hnq] at h2; cases h1; cases h2; exact h3, fun h => ⟨a, b, hnp, hnq, h⟩⟩
      have HVI := Lib.hid hvi
      have HNP := Lib.hid hnp; have HNQ := Lib.hid hnq
      clear hvi HV hnp hnq
      go_enter Tryd.func32, Tryd.ntmps32
      go_wp2_with fail
      refine (HQ.out _).mono ?_
      rintro e w2 ⟨v2, rfl, h2⟩
      have s2 := rsplit_names h2 HNQ.out
      have K2 := Lib.hid h2.kept; clear h2
      obtain ⟨qa, qc, rfl, hqc, _⟩ := s2.form
      have S2 := Lib.hid s2; clear s2
      go_wp2_with fail
      refine (HP.out _).mono ?_
      rintro e w3 ⟨v3, rfl, h3⟩
      have s3 := rsplit_names h3 HNP.out
      have S2b := Lib.hid (S2.out.kept h3.kept (fun _ _ h => h))
      have K3 := Lib.hid (K2.out.then h3.kept); clear h3
      obtain ⟨pa, pc, rfl, hpc, _⟩ := s3.form
      have S3 := Lib.hid s3; clear s3 S2 K2 HQ HP
      obtain ⟨n, hn⟩ : ∃ n, n = b.length := ⟨_, rfl⟩
      obtain ⟨m, hm⟩ : ∃ m, m = a.length := ⟨_, rfl⟩
      rw [← hn] at S2b hlb hqc ⊢
      rw [← hm] at S3 hla hpc ⊢
      have HN := Lib.hid hn; have HM := Lib.hid hm
      clear hn hm
      by_cases hle : n ≤ m
      · have hgt : ¬ (m : Int) < (n : Int) := by omega
        have HPX := Lib.hid (prefix_at (a := a) (b := b) (by have := HN.out; have := HM.out; omega))
        go_wp2_with fail
        go_loopw [9, 35] (fun _ iv wr => ∃ k : Nat, k ≤ n ∧ iv = .int .i64 (k : Int) ∧ Hid (∀ i, i < k → b.getD i ⟨#[]⟩ = a.getD i ⟨#[]⟩) ∧ Hid (Kept (fun _ => False) w3 wr)) (fun _ iv _ => n - (intOf iv).toNat)
        case atStart => exact ⟨0, Nat.zero_le _, rfl, Lib.hid (fun i hi => absurd hi (by omega)), Lib.hid (Kept.refl _ _)⟩
        case round =>
          obtain ⟨k, hk, rfl, hlo, hkr⟩ := hrel
          by_cases hlt : k < n
          · have l1 : (k : Int) < (n : Int) := by omega
            have l0 : (0 : Int) ≤ (k : Int) := by omega
            have l2 : (k : Int) < (m : Int) := by omega
            obtain ⟨g, off, rfl, _, c0⟩ := (S2b.out.kept hkr.out (fun _ _ h => h)).at (k := k) (by have := HN.out; omega)
            obtain ⟨g', off', rfl, _, c1⟩ := (S3.out.kept hkr.out (fun _ _ h => h)).at (k := k) (by have := HM.out; omega)
            obtain ⟨x, hx⟩ : ∃ x, x = b.getD k ⟨#[]⟩ := ⟨_, rfl⟩
            obtain ⟨y, hy⟩ : ∃ y, y = a.getD k ⟨#[]⟩ := ⟨_, rfl⟩
            rw [← hx] at c0
            rw [← hy] at c1
            have e1 : (x.toList == y.toList) = decide (x = y) := str_eq x y
            have HX := Lib.hid hx; have HY := Lib.hid hy
            clear hx hy
            by_cases hxy : x = y
            · have hnx : Hid (∀ i, i < k + 1 → b.getD i ⟨#[]⟩ = a.getD i ⟨#[]⟩) := Lib.hid fun i hi => by
                rcases Nat.lt_or_ge i k with h | h
                · exact hlo.out i h
                · obtain rfl : i = k := by omega
                  rw [← HX.out, ← HY.out]; exact hxy
              subst hxy
              have e4 : (x.toList != x.toList) = false := by simp
              clear e1 hlo
              go_wp2_with fail
              go_quiet (fail)
              go_wp2_with fail
              go_roundw
              case rel => exact ⟨k + 1, by omega, by go_num, hnx, Lib.hid (hkr.out.drewN _)⟩
              case measure => simp [intOf]; omega
            · have hv : V = false := by
                rw [Bool.eq_false_iff]
                intro h
                have := (HPX.out.1 (HVI.out.1 h)) k (by have := HN.out; omega)
                rw [← HX.out, ← HY.out] at this
                exact hxy this
              have e2 : (x.toList == y.toList) = false := by rw [e1]; simp [hxy]
              have e3 : (x.toList != y.toList) = true := by rw [bne, e2]; rfl
              have e4 : ¬ x.toList = y.toList := by simpa using e2
              subst hv
              clear e1 hlo hxy
              go_wp2_with fail
              go_quiet (fail)
              go_wp2_with fail
              go_ret
              exact ⟨rfl, (K3.out.then hkr.out).drewN _⟩
          · obtain rfl : k = n := by omega
            have hv : V = true := HVI.out.2 (HPX.out.2 fun i hi => hlo.out i (by have := HN.out; omega))
            subst hv
            clear hlo
            go_wp2_with fail
            go_ret
            exact ⟨rfl, K3.out.then hkr.out⟩
      · have hgt : (m : Int) < (n : Int) := by omega
        have hv : V = false := by
          rw [Bool.eq_false_iff]
          intro h
          have := (HVI.out.1 h).length_le
          have := HN.out; have := HM.out
          omega
        subst hv
        go_wp2_with fail
        go_ret
        exact ⟨rfl, K3.out⟩

theorem chkP_split (x : Per) : (validS x.a = false ∧ chkP x = 9) ∨ (validS x.a = true ∧ namesS x.p = none ∧ chkP x = 6) ∨
    (validS x.a = true ∧ ∃ l, namesS x.p = some l ∧ l.length ≤ 8 ∧ ((l.length = 8 ∧ x.d = true ∧ chkP x = 6) ∨ (l.length = 8 ∧ x.d = false ∧ chkP x = 0) ∨ (l.length ≠ 8 ∧ chkP x = 0))) := by
  unfold chkP okP dpS
  cases hv : validS x.a with
  | false => exact Or.inl ⟨rfl, rfl⟩
  | true =>
    right
    cases hn : namesS x.p with
    | none => exact Or.inl ⟨rfl, rfl, rfl⟩
    | some l =>
      right
      refine ⟨rfl, l, rfl, (pathS_names hn).2.2, ?_⟩
      by_cases h8 : l.length = 8
      · cases hd : x.d with
        | false => exact Or.inr (Or.inl ⟨h8, rfl, by simp⟩)
        | true => exact Or.inl ⟨h8, rfl, by simp [h8]⟩
      · exact Or.inr (Or.inr ⟨h8, by simp [h8]⟩)

set_option maxRecDepth 100000 in
set_option maxHeartbeats 3200000 in
theorem rcheck_any (x : Per) (hs : x.p.size ≤ 100000) (w : World) :
    Calls Tryd.prog 12 #[perV x] w fun e w' => e = .returned (.int .i64 (chkP x)) ∧ Kept (fun _ => False) w w' := by
  have HC := Lib.hid (chkP_split x)
  have HV := Lib.hid (fun W => rvalid_any x.a W)
  have HD := Lib.hid (fun W => psplit_any x.p hs W)
  obtain ⟨a, p, d⟩ := x
  unfold perV
  have HB := Lib.hid (Bx.new w a p d 28)
  have HK := Lib.hid (Kept.alloc (fun _ => False) w (.cells #[.string a, .string p, .bool d] 28))
  simp only at HC HV HD
  generalize chkP ⟨a, p, d⟩ = C at *
  generalize validS a = V at *
  clear hs
  go_enter Tryd.func12, Tryd.ntmps12
  go_wp2_with fail
  refine (HV.out _).mono ?_
  generalize w.alloc (.cells #[.string a, .string p, .bool d] 28) = W1 at *
  generalize w.heap.size = Q at *
  rintro e w2 ⟨rfl, k2⟩
  obtain ⟨c0, c1, c2⟩ := HB.out.stay k2
  have HB2 := Lib.hid (HB.out.stay k2)
  have HK2 := Lib.hid (HK.out.then k2)
  clear HB HK k2 HV
  have hc := HC.out
  clear HC
  rcases hc with ⟨rfl, rfl⟩ | ⟨rfl, hn, rfl⟩ | ⟨rfl, l, hn, hl8, hc⟩
  · go_wp2_with fail
    go_ret
    exact ⟨rfl, HK2.out⟩
  · rw [hn] at HD
    clear hn
    go_wp2_with fail
    refine (HD.out _).mono ?_
    rintro e w3 ⟨v3, rfl, h3⟩
    obtain ⟨c0, c1, c2⟩ := HB2.out.stay h3.kept
    have HK3 := Lib.hid (HK2.out.then h3.kept)
    clear h3
    go_wp2_with fail
    go_ret
    exact ⟨rfl, HK3.out⟩
  · rw [hn] at HD
    have HN := Lib.hid hn
    have HC := Lib.hid hc
    clear hn hc
    go_wp2_with fail
    refine (HD.out _).mono ?_
    rintro e w3 ⟨v3, rfl, h3⟩
    obtain ⟨c0, c1, c2⟩ := HB2.out.stay h3.kept
    have HK3 := Lib.hid (HK2.out.then h3.kept)
    obtain ⟨va, vc, rfl, _, _⟩ := (rsplit_names h3 HN.out).form
    clear h3
    have hc := HC.out
    clear HC HN HD HK2 HB2
    generalize l.length = n at hc hl8 ⊢
    rcases hc with ⟨rfl, rfl, rfl⟩ | ⟨rfl, rfl, rfl⟩ | ⟨h8, rfl⟩
    · go_wp2_with fail
      go_ret
      exact ⟨rfl, HK3.out⟩
    · go_wp2_with fail
      go_ret
      exact ⟨rfl, HK3.out⟩
    · have h8i : ¬ (n : Int) = 8 := by omega
      have h8b : ((n : Int) == 8) = false := beq_eq_false_iff_ne.2 h8i
      cases d <;>
      · go_wp2_with fail
        go_ret
        exact ⟨rfl, HK3.out⟩

theorem covP_eq (x : Per) (a s : ByteArray) : covP x a s = (okP x && (namesS s).isSome && decide (a = x.a) && (decide (s = x.p) || (x.d && withinS s x.p))) := by
  unfold covP
  rw [Bool.eq_iff_iff, impP_iff, okP_req]
  simp only [Bool.and_eq_true, Bool.or_eq_true, decide_eq_true_eq]
  constructor
  · rintro ⟨h1, ⟨h2, h3⟩, h4⟩
    rcases h4 with e | ⟨h5, h6, h7⟩
    · have e1 : x.a = a := by rw [e]
      have e2 : x.p = s := by rw [e]
      exact ⟨⟨⟨h1, h3⟩, e1.symm⟩, Or.inl e2.symm⟩
    · exact ⟨⟨⟨h1, h3⟩, h6.symm⟩, Or.inr ⟨h5, h7⟩⟩
  · rintro ⟨⟨⟨h1, h3⟩, h6⟩, h4⟩
    refine ⟨h1, ⟨by rw [h6]; exact okP_name h1, h3⟩, ?_⟩
    rcases h4 with e | ⟨h5, h7⟩
    · cases hd : x.d with
      | false => exact Or.inl (per_ext h6.symm e.symm hd)
      | true => exact Or.inr ⟨rfl, h6.symm, by rw [e]; exact within_refl (by rw [← e]; exact h3)⟩
    · exact Or.inr ⟨h5, h6.symm, h7⟩

set_option maxRecDepth 100000 in
set_option maxHeartbeats 3200000 in
theorem rcov_any (x : Per) (b s : ByteArray) (hx : x.p.size ≤ 100000) (hs : s.size ≤ 100000) (w : World) :
    Calls Tryd.prog 16 #[perV x, .string b, .string s] w fun e w' => e = .returned (.bool (covP x b s)) ∧ Kept (fun _ => False) w w' := by
  have HS := Lib.hid (fun W => psplit_any s hs W)
  have HC := Lib.hid (fun W => rcheck_any x hx W)
  have HW := Lib.hid (fun W => rwithin_any x.p s hx hs W)
  have hz := chkP_zero x
  obtain ⟨V, hV⟩ : ∃ V, V = covP x b s := ⟨_, rfl⟩
  rw [← hV]
  rw [covP_eq] at hV
  obtain ⟨a, p, d⟩ := x
  unfold perV at *
  simp only at hV HW
  have HB := Lib.hid (Bx.new w a p d 28)
  have HK := Lib.hid (Kept.alloc (fun _ => False) w (.cells #[.string a, .string p, .bool d] 28))
  have e1 : (b.toList == a.toList) = decide (b = a) := str_eq b a
  have e2 : (s.toList == p.toList) = decide (s = p) := str_eq s p
  have n1 : (b.toList != a.toList) = !decide (b = a) := by rw [bne, e1]
  generalize decide (b = a) = E1 at *
  generalize decide (s = p) = E2 at *
  generalize (namesS s).isSome = NS at *
  generalize withinS s p = WI at *
  have hcz : (chkP ⟨a, p, d⟩ != 0) = !okP ⟨a, p, d⟩ := by
    rw [bne]
    congr 1
    rw [Bool.eq_iff_iff, ← hz]; simp
  have hce : (chkP ⟨a, p, d⟩ == 0) = okP ⟨a, p, d⟩ := by rw [Bool.eq_iff_iff, ← hz]; simp
  generalize chkP ⟨a, p, d⟩ = C at *
  generalize okP ⟨a, p, d⟩ = O at *
  have HV := Lib.hid hV
  clear hV hz hx hs
  go_enter Tryd.func16, Tryd.ntmps16
  go_wp2_with fail
  refine (HS.out _).mono ?_
  generalize w.alloc (.cells #[.string a, .string p, .bool d] 28) = W1 at *
  generalize w.heap.size = Q at *
  rintro e w2 ⟨v2, rfl, h2⟩
  obtain ⟨c0, c1, c2⟩ := HB.out.stay h2.kept
  have HB2 := Lib.hid (HB.out.stay h2.kept)
  have HK2 := Lib.hid (HK.out.then h2.kept)
  clear h2 HB HK HS
  go_wp2_with fail
  refine (HC.out _).mono ?_
  rintro e w3 ⟨rfl, k3⟩
  obtain ⟨c0, c1, c2⟩ := HB2.out.stay k3
  have HK3 := Lib.hid (HK2.out.then k3)
  clear k3 HB2 HC HK2
  cases O with
  | false =>
    have hv : V = false := by rw [HV.out]; rfl
    subst hv
    clear HV
    go_wp2_with fail
    all_goals (go_ret; exact ⟨rfl, HK3.out⟩)
  | true =>
    cases NS with
    | false =>
      have hv : V = false := by rw [HV.out]; rfl
      subst hv
      clear HV
      go_wp2_with fail
      all_goals (go_ret; exact ⟨rfl, HK3.out⟩)
    | true =>
      cases E1 with
      | false =>
        have hv : V = false := by rw [HV.out]; rfl
        subst hv
        clear HV
        go_wp2_with fail
        all_goals (go_ret; exact ⟨rfl, HK3.out⟩)
      | true =>
        cases E2 with
        | true =>
          have hv : V = true := by rw [HV.out]; rfl
          subst hv
          clear HV
          go_wp2_with fail
          all_goals (go_ret; exact ⟨rfl, HK3.out⟩)
        | false =>
          cases d with
          | false =>
            have hv : V = false := by rw [HV.out]; rfl
            subst hv
            clear HV
            go_wp2_with fail
            all_goals (go_ret; exact ⟨rfl, HK3.out⟩)
          | true =>
            have hv : V = WI := by rw [HV.out]; simp
            subst hv
            clear HV
            go_wp2_with fail
            refine (HW.out _).mono ?_
            rintro e w4 ⟨rfl, k4⟩
            have HK4 := Lib.hid (HK3.out.then k4)
            clear k4
            go_wp2_with fail
            go_ret
            exact ⟨rfl, HK4.out⟩
end Go.Proofs.YtcooacjpblhblaaDoor
/-
  Permissions: Parse; the reference's Text.
-/
namespace Go.Proofs.YtcooacjpblhblaaDoor
open Go.RowKit Go.Shelf
set_option linter.unusedSimpArgs false
set_option linter.unusedVariables false
set_option maxRecDepth 100000

def laysCutB_ren : Go.Shelf.Ren := ⟨fun | 217 => 87 | 219 => 70 | 220 => 58 | 224 => 89 | 225 => 88 | 266 => 103 | 267 => 90 | 314 => 104 | n => n, fun | 3 => 3 | 4 => 4 | 5 => 5 | 9 => 9 | 46 => 83 | 51 => 96 | 146 => 101 | n => n, fun | 1 => 0 | n => n⟩
theorem laysCutB : Go.Proofs.Lays.n220 Tryd.prog laysCutB_ren := {
  mixed := by kernel_rfl
  f217 := Tryd.func87.trans (congrArg some (by kernel_rfl))
  f219 := Tryd.func70.trans (congrArg some (by kernel_rfl))
  f220 := Tryd.func58.trans (congrArg some (by kernel_rfl))
  f224 := Tryd.func89.trans (congrArg some (by kernel_rfl))
  f225 := Tryd.func88.trans (congrArg some (by kernel_rfl))
  f266 := Tryd.func103.trans (congrArg some (by kernel_rfl))
  f267 := Tryd.func90.trans (congrArg some (by kernel_rfl))
  f314 := Tryd.func104.trans (congrArg some (by kernel_rfl))
  t3 := Tryd.underlying3
  a3 := Tryd.isAgg3
  z3 := Tryd.sizeOf3
  v3 := Tryd.zeroValue3
  t4 := Tryd.underlying4
  a4 := Tryd.isAgg4
  z4 := Tryd.sizeOf4
  v4 := Tryd.zeroValue4
  t5 := Tryd.underlying5
  a5 := Tryd.isAgg5
  z5 := Tryd.sizeOf5
  v5 := Tryd.zeroValue5
  t9 := Tryd.underlying9
  a9 := Tryd.isAgg9
  z9 := Tryd.sizeOf9
  v9 := Tryd.zeroValue9
  t46 := Tryd.underlying83
  a46 := Tryd.isAgg83
  z46 := Tryd.sizeOf83
  v46 := Tryd.zeroValue83
  t51 := Tryd.underlying96
  a51 := Tryd.isAgg96
  z51 := Tryd.sizeOf96
  v51 := Tryd.zeroValue96
  t146 := Tryd.underlying101
  a146 := Tryd.isAgg101
  z146 := Tryd.sizeOf101
  v146 := Tryd.zeroValue101
  g1 := by kernel_rfl }

theorem sh_CutS (p : ByteArray) (hp : p.size ≤ 1000000) (w : World) : Calls Tryd.prog 41 #[.string p, .string ⟨#[47, 42]⟩] w fun e w' => e = .returned (.tuple #[.string (mkS (Lib.trimSuffix p.data.toList [47, 42])), .bool (Lib.hasSuffix p.data.toList [47, 42])]) ∧ w = w' :=
  (Any.strings_CutSuffix laysCutS p ⟨#[47, 42]⟩ w (by omega)).mono fun _ _ ⟨h1, h2⟩ => ⟨h1, h2.symm⟩

/-- What stands before the first blank, and behind it. -/
def cutA (s : ByteArray) : ByteArray := if Lib.indexByte s.data.toList 32 = -1 then s else s.extract 0 (Lib.indexByte s.data.toList 32).toNat
def cutR (s : ByteArray) : ByteArray := if Lib.indexByte s.data.toList 32 = -1 then ⟨#[]⟩ else s.extract ((Lib.indexByte s.data.toList 32).toNat + 1) s.size
theorem index_oneQ (l : List UInt8) (c : UInt8) : Lib.index l [c] = Lib.indexByte l c := by
  induction l with
  | nil => simp [Lib.index, Lib.indexByte]
  | cons b l ih =>
    unfold Lib.index Lib.indexByte
    rw [ih]
    by_cases h : b = c
    · subst h; simp [List.isPrefixOf]
    · simp [List.isPrefixOf, h, Ne.symm h]
theorem indexB_oneQ (x : ByteArray) (c : UInt8) : Lib.indexB x ⟨#[c]⟩ = Lib.indexByte x.data.toList c := index_oneQ _ _
theorem cutR_size (s : ByteArray) : (cutR s).size ≤ s.size := by
  unfold cutR
  split
  · exact Nat.zero_le _
  · rw [ByteArray.size_extract]; omega

set_option maxHeartbeats 1600000 in
theorem scut_sp (s : ByteArray) (hs : s.size ≤ 1000000) (w : World) : Calls Tryd.prog 58 #[.string s, .string ⟨#[32]⟩] w fun e w' =>
    ∃ b, e = .returned (.tuple #[.string (cutA s), .string (cutR s), .bool b]) ∧ Kept (fun _ => False) w w' := by
  have hI := fun W => Any.stringslite_Index_one { laysCutB with } s 32 W
  unfold cutA cutR
  rcases Lib.indexB_cases s ⟨#[32]⟩ with hix | ⟨i, hix, hroom⟩
  · rw [indexB_oneQ] at hix
    rw [hix] at hI
    rw [if_pos hix, if_pos hix]
    have HI := Lib.hid hI
    clear hI hix hs
    go_enter Tryd.func58, Tryd.ntmps58
    go_wp2_with fail
    refine (HI.out _).mono ?_
    rintro e w' ⟨rfl, rfl⟩
    go_wp2_with fail
    go_ret3
    exact ⟨_, rfl, Kept.refl _ _⟩
  · rw [indexB_oneQ] at hix
    rw [hix] at hI
    rw [if_neg (by rw [hix]; omega), if_neg (by rw [hix]; omega), hix]
    have hroom' : i + 1 ≤ s.size := hroom
    have HI := Lib.hid hI
    have mixed : Tryd.prog.follows .mixedOrders = true := by kernel_rfl
    have c1 : (0 : Int) ≤ ↑i := by omega
    have c2 : (↑i : Int) ≤ ↑s.size := by omega
    have c3 : (0 : Int) ≤ ↑i + 1 := by omega
    have c4 : (↑i + 1 : Int) ≤ ↑s.size := by omega
    have c5 : ((i : Int)).toNat = i := by omega
    rw [c5]
    clear hI hix hroom c5
    go_enter Tryd.func58, Tryd.ntmps58
    go_wp2_with fail
    refine (HI.out _).mono ?_
    rintro e w' ⟨rfl, rfl⟩
    go_wp2_with fail
    go_region_o
    go_wp2_with fail
    go_ret3
    exact ⟨_, rfl, (Kept.refl _ _).drew⟩
theorem cut_sp (s : ByteArray) (hs : s.size ≤ 1000000) (w : World) : Calls Tryd.prog 40 #[.string s, .string ⟨#[32]⟩] w fun e w' =>
    ∃ b, e = .returned (.tuple #[.string (cutA s), .string (cutR s), .bool b]) ∧ Kept (fun _ => False) w w' := by
  have HC := Lib.hid (scut_sp s hs)
  generalize cutA s = y at HC ⊢
  generalize cutR s = z at HC ⊢
  go_enter Tryd.func40, Tryd.ntmps40
  go_wp2_with fail
  refine (HC.out _).mono ?_
  rintro e w' ⟨b, rfl, hk⟩
  have HK := Lib.hid hk
  clear hk
  go_wp2_with fail
  go_ret3
  exact ⟨_, rfl, HK.out⟩

/-- What Parse tries. -/
def prsT (s : ByteArray) : ByteArray := mkS (Lib.trimSuffix (cutR s).data.toList [47, 42])
def prsD (s : ByteArray) : Bool := Lib.hasSuffix (cutR s).data.toList [47, 42]
def prsC (s : ByteArray) : Per := ⟨cutA s, if prsD s && decide (prsT s = ⟨#[]⟩) then ⟨#[47]⟩ else prsT s, prsD s⟩
def prsOk (s : ByteArray) : Bool := okP (prsC s) && decide (txtP (prsC s) = s)
def prsR (s : ByteArray) : Per := if prsOk s then prsC s else per0
def prsE (s : ByteArray) : Int := if prsOk s then 0 else 6
theorem prsT_size (s : ByteArray) : (prsT s).size ≤ s.size := by
  have h := cutR_size s
  unfold prsT
  have h1 : (mkS (Lib.trimSuffix (cutR s).data.toList [47, 42])).size = (Lib.trimSuffix (cutR s).data.toList [47, 42]).length := by
    show (Lib.trimSuffix (cutR s).data.toList [47, 42]).toArray.size = _
    rw [List.size_toArray]
  rw [h1]
  unfold Lib.trimSuffix
  have h2 : (cutR s).data.toList.length = (cutR s).size := rfl
  split
  · rw [List.length_take]; omega
  · omega
theorem prsC_size (s : ByteArray) (hs : s.size ≤ 100000) : (prsC s).p.size ≤ 100000 := by
  have h := prsT_size s
  unfold prsC
  simp only
  split
  · decide
  · omega
end Go.Proofs.YtcooacjpblhblaaDoor
/-
  Permissions: Parse walked.
-/
namespace Go.Proofs.YtcooacjpblhblaaDoor
open Go.RowKit Go.Shelf
set_option linter.unusedSimpArgs false
set_option linter.unusedVariables false
set_option maxRecDepth 100000

/-- The three cells of a block are not frozen. -/
def Fz (w : World) (g : Nat) : Prop := w.frozen? ⟨g, 0, none⟩ = false ∧ w.frozen? ⟨g, 1, none⟩ = false ∧ w.frozen? ⟨g, 2, none⟩ = false
def putA (q : World) (g : Nat) (a r : ByteArray) : World := (q.setCell ⟨g, 0, none⟩ (.string a)).setCell ⟨g, 1, none⟩ (.string r)
def putB (q : World) (g : Nat) (t : ByteArray) (D : Bool) : World := (q.setCell ⟨g, 1, none⟩ (.string t)).setCell ⟨g, 2, none⟩ (.bool D)
def putC (q : World) (g : Nat) (t : ByteArray) (D : Bool) : World := (putB q g t D).setCell ⟨g, 1, none⟩ (.string ⟨#[47]⟩)
theorem putA_own (q : World) (g : Nat) (a r : ByteArray) : Kept (fun k => k = g) q (putA q g a r) :=
  (Kept.setCell (fun k => k = g) q ⟨g, 0, none⟩ (.string a) rfl).trans (Kept.setCell (fun k => k = g) _ ⟨g, 1, none⟩ (.string r) rfl) (fun _ _ h => h) (fun _ _ h => h)
theorem putB_own (q : World) (g : Nat) (t : ByteArray) (D : Bool) : Kept (fun k => k = g) q (putB q g t D) :=
  (Kept.setCell (fun k => k = g) q ⟨g, 1, none⟩ (.string t) rfl).trans (Kept.setCell (fun k => k = g) _ ⟨g, 2, none⟩ (.bool D) rfl) (fun _ _ h => h) (fun _ _ h => h)
theorem putC_own (q : World) (g : Nat) (t : ByteArray) (D : Bool) : Kept (fun k => k = g) q (putC q g t D) :=
  (putB_own q g t D).trans (Kept.setCell (fun k => k = g) _ ⟨g, 1, none⟩ (.string ⟨#[47]⟩) rfl) (fun _ _ h => h) (fun _ _ h => h)
theorem kept_at {W1 q r : World} {g : Nat} (hk : Kept (fun _ => False) W1 q) (h : Kept (fun k => k = g) q r) (hg : W1.heap.size ≤ g) : Kept (fun _ => False) W1 r :=
  hk.trans h (fun _ _ h => h) (fun i hi e => by omega)
theorem bx_putA {q : World} {g : Nat} {T : TypeId} {x y : Value} {d : Bool} (h : Zb q g T x y (.bool d)) (a r : ByteArray) : Bx (putA q g a r) g a r d ∧ Fz (putA q g a r) g := by
  obtain ⟨⟨z0, z1, z2⟩, f0, f1, f2⟩ := h.cells
  unfold putA Fz
  exact ⟨⟨by go_simp, by go_simp, by go_simp⟩, by go_simp, by go_simp, by go_simp⟩
theorem bx_putB {q : World} {g : Nat} {a r : ByteArray} {d : Bool} (h : Bx q g a r d) (t : ByteArray) (D : Bool) : Bx (putB q g t D) g a t D := by
  obtain ⟨z0, z1, z2⟩ := h
  unfold putB
  exact ⟨by go_simp, by go_simp, by go_simp⟩
theorem bx_putC {q : World} {g : Nat} {a r : ByteArray} {d : Bool} (h : Bx q g a r d) (t : ByteArray) (D : Bool) : Bx (putC q g t D) g a ⟨#[47]⟩ D := by
  obtain ⟨z0, z1, z2⟩ := bx_putB h t D
  unfold putC
  exact ⟨by go_simp, by go_simp, by go_simp⟩

/-- What Parse answers, by cases. -/
theorem prs_cases (s : ByteArray) : (prsOk s = true ∧ prsR s = prsC s ∧ prsE s = 0) ∨ (prsOk s = false ∧ prsR s = per0 ∧ prsE s = 6) := by
  unfold prsR prsE
  cases h : prsOk s
  · right; simp
  · left; simp

set_option maxHeartbeats 3200000 in
theorem pparse_any (s : ByteArray) (hs : s.size ≤ 100000) (w : World) :
    Calls Tryd.prog 23 #[.string s] w fun e w' => e = .returned (.tuple #[perV (prsR s), .int .i64 (prsE s)]) ∧ Kept (fun _ => False) w w' := by
  have HC := Lib.hid (cut_sp s (by omega))
  have hrs := cutR_size s
  have HT := Lib.hid (sh_CutS (cutR s) (by omega))
  have HV := Lib.hid (fun W => pok_any (prsC s) (by have := prsC_size s hs; omega) W)
  have HX := Lib.hid (fun W => ptext_any (prsC s) (by have := prsC_size s hs; omega) W)
  have hP : prsC s = ⟨cutA s, if prsD s && decide (prsT s = ⟨#[]⟩) then ⟨#[47]⟩ else prsT s, prsD s⟩ := rfl
  have hR := prs_cases s
  have hO : prsOk s = (okP (prsC s) && decide (txtP (prsC s) = s)) := rfl
  obtain ⟨R, hRR⟩ : ∃ R, R = prsR s := ⟨_, rfl⟩
  obtain ⟨E, hE⟩ : ∃ E, E = prsE s := ⟨_, rfl⟩
  obtain ⟨X, hX⟩ : ∃ X, X = txtP (prsC s) := ⟨_, rfl⟩
  obtain ⟨O, hOO⟩ : ∃ O, O = okP (prsC s) := ⟨_, rfl⟩
  rw [← hRR, ← hE, hO, ← hX, ← hOO, hP] at hR
  rw [← hRR, ← hE]
  rw [hP, ← hOO.trans (congrArg okP hP)] at HV
  rw [hP, ← hX.trans (congrArg txtP hP)] at HX
  rw [show mkS (Lib.trimSuffix (cutR s).data.toList [47, 42]) = prsT s from rfl, show Lib.hasSuffix (cutR s).data.toList [47, 42] = prsD s from rfl] at HT
  clear hRR hE hX hOO hO hP
  generalize cutA s = a at *
  generalize cutR s = r at *
  generalize prsT s = t at *
  generalize prsD s = D at *
  obtain ⟨p, hp⟩ : ∃ p, p = (if D && decide (t = ⟨#[]⟩) then (⟨#[47]⟩ : ByteArray) else t) := ⟨_, rfl⟩
  rw [← hp] at HV HX hR
  unfold perV per0 at *
  simp only at HV HX
  have HRC : Hid ((O = true ∧ X = s ∧ (R = ⟨a, p, D⟩ ∧ E = 0)) ∨ ((O = false ∨ ¬ X = s) ∧ (R = ⟨⟨#[]⟩, ⟨#[]⟩, false⟩ ∧ E = 6))) := Lib.hid (by
    rcases hR with ⟨h1, h2⟩ | ⟨h1, h2⟩
    · simp at h1; exact Or.inl ⟨h1.1, h1.2, h2⟩
    · right; refine ⟨?_, h2⟩
      cases O
      · exact Or.inl rfl
      · simp at h1; exact Or.inr h1)
  have HZ1 := Lib.hid ((Zb.new w 27 (.string ⟨#[]⟩) (.string ⟨#[]⟩) (.bool false)).kept (Kept.alloc (fun _ => False) _ (.cells #[.string ⟨#[]⟩, .string ⟨#[]⟩, .bool false] 27)) (fun h => h))
  have HZ2 := Lib.hid (Zb.new (w.alloc (.cells #[.string ⟨#[]⟩, .string ⟨#[]⟩, .bool false] 27)) 27 (.string ⟨#[]⟩) (.string ⟨#[]⟩) (.bool false))
  have e1 : (w.alloc (.cells #[.string ⟨#[]⟩, .string ⟨#[]⟩, .bool false] 27)).heap.size = w.heap.size + 1 := by simp
  rw [e1] at HZ2
  have HK := Lib.hid ((Kept.alloc (fun _ => False) w (.cells #[.string ⟨#[]⟩, .string ⟨#[]⟩, .bool false] 27)).then (Kept.alloc (fun _ => False) _ (.cells #[.string ⟨#[]⟩, .string ⟨#[]⟩, .bool false] 27)))
  have HP := Lib.hid hp
  clear hp hR hs hrs e1
  go_enter Tryd.func23, Tryd.ntmps23
  go_wp2_with fail
  refine (HC.out _).mono ?_
  generalize (w.alloc (.cells #[.string ⟨#[]⟩, .string ⟨#[]⟩, .bool false] 27)).alloc (.cells #[.string ⟨#[]⟩, .string ⟨#[]⟩, .bool false] 27) = W1 at *
  rintro e w2 ⟨b, rfl, k2⟩
  have Z1 := Lib.hid (HZ1.out.kept k2 (fun h => h))
  have Z2 := Lib.hid (HZ2.out.kept k2 (fun h => h))
  have K2 := Lib.hid (HK.out.then k2)
  clear k2 HK HZ1 HZ2 HC
  obtain ⟨⟨z0, z1, z2⟩, y0, y1, y2⟩ := Z2.out.cells
  go_wp2_with fail
  obtain ⟨B3, F3⟩ := bx_putA Z2.out a r
  have Z3 := Z1.out.kept (putA_own w2 (w.heap.size + 1) a r) (by show ¬ w.heap.size = w.heap.size + 1; omega)
  have k3 := kept_at K2.out (putA_own w2 (w.heap.size + 1) a r) (Nat.le_succ _)
  unfold putA at *
  refine (HT.out _).mono ?_
  generalize (w2.setCell ⟨w.heap.size + 1, 0, none⟩ (.string a)).setCell ⟨w.heap.size + 1, 1, none⟩ (.string r) = W3 at *
  rintro e w3 ⟨rfl, rfl⟩
  have hg : w.heap.size ≤ w.heap.size + 1 := Nat.le_succ _
  have hne : ¬ w.heap.size = w.heap.size + 1 := by omega
  have ZB := Lib.hid (Z3.kept (putB_own W3 (w.heap.size + 1) t D) hne)
  have ZC := Lib.hid (Z3.kept (putC_own W3 (w.heap.size + 1) t D) hne)
  have KB := Lib.hid (kept_at k3 (putB_own W3 (w.heap.size + 1) t D) hg)
  have KC := Lib.hid (kept_at k3 (putC_own W3 (w.heap.size + 1) t D) hg)
  have BB := Lib.hid (bx_putB B3 t D)
  have BC := Lib.hid (bx_putC B3 t D)
  obtain ⟨b0, b1, b2⟩ := B3
  obtain ⟨f0, f1, f2⟩ := F3
  clear Z1 Z2 K2 z0 z1 z2 y0 y1 y2 Z3 k3 hg hne HT
  cases D with
  | false =>
    obtain rfl : p = t := by rw [HP.out]; rfl
    clear ZC KC BC HP
    obtain ⟨c0, c1, c2⟩ := BB.out
    unfold putB at *
    go_wp2_with fail
    refine (HV.out _).mono ?_
    generalize (W3.setCell ⟨w.heap.size + 1, 1, none⟩ (.string p)).setCell ⟨w.heap.size + 1, 2, none⟩ (.bool false) = W4 at *
    rintro e w5 ⟨rfl, k5⟩
    have K5 := Lib.hid (KB.out.then k5)
    have B5 := Lib.hid (BB.out.stay k5)
    have Z5 := Lib.hid (ZB.out.kept k5 (fun h => h))
    clear k5 KB BB ZB c0 c1 c2
    obtain ⟨c0, c1, c2⟩ := B5.out
    cases O with
    | false =>
      obtain ⟨rfl, rfl⟩ : R = ⟨⟨#[]⟩, ⟨#[]⟩, false⟩ ∧ E = 6 := by
        rcases HRC.out with ⟨h, _⟩ | ⟨_, h⟩
        · cases h
        · exact h
      clear HRC HX HV B5
      obtain ⟨⟨z0, z1, z2⟩, y0, y1, y2⟩ := Z5.out.cells
      have FB := Lib.hid (zb_put Z5.out K5.out (Nat.le_refl _) ⟨#[]⟩ ⟨#[]⟩ false)
      go_wp2_with fail
      refine bodyPost_ret_by (v := .tuple #[.agg #[.string ⟨#[]⟩, .string ⟨#[]⟩, .bool false], .int .i64 6]) ?_ rfl ⟨rfl, FB.out.2⟩
      exact results_slotQ Tryd.results23 _ _ w.heap.size [.string ⟨#[]⟩, .string ⟨#[]⟩, .bool false] _ _ rfl rfl (bx_list FB.out.1) Tryd.underlying27 rfl (by kernel_rfl)
    | true =>
      go_wp2_with fail
      refine (HX.out _).mono ?_
      rintro e w6 ⟨rfl, k6⟩
      have K6 := Lib.hid (K5.out.then k6)
      have B6 := Lib.hid (B5.out.stay k6)
      have Z6 := Lib.hid (Z5.out.kept k6 (fun h => h))
      clear k6 K5 B5 Z5 c0 c1 c2
      obtain ⟨c0, c1, c2⟩ := B6.out
      have hXs := str_eq X s
      by_cases hx : X = s
      · rw [decide_eq_true hx] at hXs
        obtain ⟨rfl, rfl⟩ : R = ⟨a, p, false⟩ ∧ E = 0 := by
          rcases HRC.out with ⟨_, _, h⟩ | ⟨h, _⟩
          · exact h
          · exact absurd hx (h.resolve_left (by simp))
        clear HRC HX HV hx B6
        obtain ⟨⟨z0, z1, z2⟩, y0, y1, y2⟩ := Z6.out.cells
        have FB := Lib.hid (zb_put Z6.out K6.out (Nat.le_refl _) a p false)
        go_wp2_with fail
        refine bodyPost_ret_by (v := .tuple #[.agg #[.string a, .string p, .bool false], .int .i64 0]) ?_ rfl ⟨rfl, FB.out.2⟩
        exact results_slotQ Tryd.results23 _ _ w.heap.size [.string a, .string p, .bool false] _ _ rfl rfl (bx_list FB.out.1) Tryd.underlying27 rfl (by kernel_rfl)
      · rw [decide_eq_false hx] at hXs
        obtain ⟨rfl, rfl⟩ : R = ⟨⟨#[]⟩, ⟨#[]⟩, false⟩ ∧ E = 6 := by
          rcases HRC.out with ⟨_, h, _⟩ | ⟨_, h⟩
          · exact absurd h hx
          · exact h
        clear HRC HX HV hx B6
        obtain ⟨⟨z0, z1, z2⟩, y0, y1, y2⟩ := Z6.out.cells
        have FB := Lib.hid (zb_put Z6.out K6.out (Nat.le_refl _) ⟨#[]⟩ ⟨#[]⟩ false)
        go_wp2_with fail
        refine bodyPost_ret_by (v := .tuple #[.agg #[.string ⟨#[]⟩, .string ⟨#[]⟩, .bool false], .int .i64 6]) ?_ rfl ⟨rfl, FB.out.2⟩
        exact results_slotQ Tryd.results23 _ _ w.heap.size [.string ⟨#[]⟩, .string ⟨#[]⟩, .bool false] _ _ rfl rfl (bx_list FB.out.1) Tryd.underlying27 rfl (by kernel_rfl)
  | true =>
    by_cases ht : t = ⟨#[]⟩
    · obtain rfl : p = ⟨#[47]⟩ := by rw [HP.out, ht]; rfl
      subst ht
      clear ZB KB BB HP
      obtain ⟨c0, c1, c2⟩ := BC.out
      unfold putC putB at *
      go_wp2_with fail
      refine (HV.out _).mono ?_
      generalize ((W3.setCell ⟨w.heap.size + 1, 1, none⟩ (.string ⟨#[]⟩)).setCell ⟨w.heap.size + 1, 2, none⟩ (.bool true)).setCell ⟨w.heap.size + 1, 1, none⟩ (.string ⟨#[47]⟩) = W4 at *
      rintro e w5 ⟨rfl, k5⟩
      have K5 := Lib.hid (KC.out.then k5)
      have B5 := Lib.hid (BC.out.stay k5)
      have Z5 := Lib.hid (ZC.out.kept k5 (fun h => h))
      clear k5 KC BC ZC c0 c1 c2
      obtain ⟨c0, c1, c2⟩ := B5.out
      cases O with
      | false =>
        obtain ⟨rfl, rfl⟩ : R = ⟨⟨#[]⟩, ⟨#[]⟩, false⟩ ∧ E = 6 := by
          rcases HRC.out with ⟨h, _⟩ | ⟨_, h⟩
          · cases h
          · exact h
        clear HRC HX HV B5
        obtain ⟨⟨z0, z1, z2⟩, y0, y1, y2⟩ := Z5.out.cells
        have FB := Lib.hid (zb_put Z5.out K5.out (Nat.le_refl _) ⟨#[]⟩ ⟨#[]⟩ false)
        go_wp2_with fail
        refine bodyPost_ret_by (v := .tuple #[.agg #[.string ⟨#[]⟩, .string ⟨#[]⟩, .bool false], .int .i64 6]) ?_ rfl ⟨rfl, FB.out.2⟩
        exact results_slotQ Tryd.results23 _ _ w.heap.size [.string ⟨#[]⟩, .string ⟨#[]⟩, .bool false] _ _ rfl rfl (bx_list FB.out.1) Tryd.underlying27 rfl (by kernel_rfl)
      | true =>
        go_wp2_with fail
        refine (HX.out _).mono ?_
        rintro e w6 ⟨rfl, k6⟩
        have K6 := Lib.hid (K5.out.then k6)
        have B6 := Lib.hid (B5.out.stay k6)
        have Z6 := Lib.hid (Z5.out.kept k6 (fun h => h))
        clear k6 K5 B5 Z5 c0 c1 c2
        obtain ⟨c0, c1, c2⟩ := B6.out
        have hXs := str_eq X s
        by_cases hx : X = s
        · rw [decide_eq_true hx] at hXs
          obtain ⟨rfl, rfl⟩ : R = ⟨a, ⟨#[47]⟩, true⟩ ∧ E = 0 := by
            rcases HRC.out with ⟨_, _, h⟩ | ⟨h, _⟩
            · exact h
            · exact absurd hx (h.resolve_left (by simp))
          clear HRC HX HV hx B6
          obtain ⟨⟨z0, z1, z2⟩, y0, y1, y2⟩ := Z6.out.cells
          have FB := Lib.hid (zb_put Z6.out K6.out (Nat.le_refl _) a ⟨#[47]⟩ true)
          go_wp2_with fail
          refine bodyPost_ret_by (v := .tuple #[.agg #[.string a, .string ⟨#[47]⟩, .bool true], .int .i64 0]) ?_ rfl ⟨rfl, FB.out.2⟩
          exact results_slotQ Tryd.results23 _ _ w.heap.size [.string a, .string ⟨#[47]⟩, .bool true] _ _ rfl rfl (bx_list FB.out.1) Tryd.underlying27 rfl (by kernel_rfl)
        · rw [decide_eq_false hx] at hXs
          obtain ⟨rfl, rfl⟩ : R = ⟨⟨#[]⟩, ⟨#[]⟩, false⟩ ∧ E = 6 := by
            rcases HRC.out with ⟨_, h, _⟩ | ⟨_, h⟩
            · exact absurd h hx
            · exact h
          clear HRC HX HV hx B6
          obtain ⟨⟨z0, z1, z2⟩, y0, y1, y2⟩ := Z6.out.cells
          have FB := Lib.hid (zb_put Z6.out K6.out (Nat.le_refl _) ⟨#[]⟩ ⟨#[]⟩ false)
          go_wp2_with fail
          refine bodyPost_ret_by (v := .tuple #[.agg #[.string ⟨#[]⟩, .string ⟨#[]⟩, .bool false], .int .i64 6]) ?_ rfl ⟨rfl, FB.out.2⟩
          exact results_slotQ Tryd.results23 _ _ w.heap.size [.string ⟨#[]⟩, .string ⟨#[]⟩, .bool false] _ _ rfl rfl (bx_list FB.out.1) Tryd.underlying27 rfl (by kernel_rfl)
    · obtain rfl : p = t := by rw [HP.out]; simp [ht]
      have e0 : ¬ p.toList = [] := toList_ne (l := []) (fun e => ht (by rw [e]))
      have e0b : (p.toList == []) = false := by simp [e0]
      have e0c : p.toList.isEmpty = false := by simp [e0]
      clear ZC KC BC HP ht
      obtain ⟨c0, c1, c2⟩ := BB.out
      unfold putB at *
      go_wp2_with fail
      refine (HV.out _).mono ?_
      generalize (W3.setCell ⟨w.heap.size + 1, 1, none⟩ (.string p)).setCell ⟨w.heap.size + 1, 2, none⟩ (.bool true) = W4 at *
      rintro e w5 ⟨rfl, k5⟩
      have K5 := Lib.hid (KB.out.then k5)
      have B5 := Lib.hid (BB.out.stay k5)
      have Z5 := Lib.hid (ZB.out.kept k5 (fun h => h))
      clear k5 KB BB ZB c0 c1 c2
      obtain ⟨c0, c1, c2⟩ := B5.out
      cases O with
      | false =>
        obtain ⟨rfl, rfl⟩ : R = ⟨⟨#[]⟩, ⟨#[]⟩, false⟩ ∧ E = 6 := by
          rcases HRC.out with ⟨h, _⟩ | ⟨_, h⟩
          · cases h
          · exact h
        clear HRC HX HV B5
        obtain ⟨⟨z0, z1, z2⟩, y0, y1, y2⟩ := Z5.out.cells
        have FB := Lib.hid (zb_put Z5.out K5.out (Nat.le_refl _) ⟨#[]⟩ ⟨#[]⟩ false)
        go_wp2_with fail
        refine bodyPost_ret_by (v := .tuple #[.agg #[.string ⟨#[]⟩, .string ⟨#[]⟩, .bool false], .int .i64 6]) ?_ rfl ⟨rfl, FB.out.2⟩
        exact results_slotQ Tryd.results23 _ _ w.heap.size [.string ⟨#[]⟩, .string ⟨#[]⟩, .bool false] _ _ rfl rfl (bx_list FB.out.1) Tryd.underlying27 rfl (by kernel_rfl)
      | true =>
        go_wp2_with fail
        refine (HX.out _).mono ?_
        rintro e w6 ⟨rfl, k6⟩
        have K6 := Lib.hid (K5.out.then k6)
        have B6 := Lib.hid (B5.out.stay k6)
        have Z6 := Lib.hid (Z5.out.kept k6 (fun h => h))
        clear k6 K5 B5 Z5 c0 c1 c2
        obtain ⟨c0, c1, c2⟩ := B6.out
        have hXs := str_eq X s
        by_cases hx : X = s
        · rw [decide_eq_true hx] at hXs
          obtain ⟨rfl, rfl⟩ : R = ⟨a, p, true⟩ ∧ E = 0 := by
            rcases HRC.out with ⟨_, _, h⟩ | ⟨h, _⟩
            · exact h
            · exact absurd hx (h.resolve_left (by simp))
          clear HRC HX HV hx B6
          obtain ⟨⟨z0, z1, z2⟩, y0, y1, y2⟩ := Z6.out.cells
          have FB := Lib.hid (zb_put Z6.out K6.out (Nat.le_refl _) a p true)
          go_wp2_with fail
          refine bodyPost_ret_by (v := .tuple #[.agg #[.string a, .string p, .bool true], .int .i64 0]) ?_ rfl ⟨rfl, FB.out.2⟩
          exact results_slotQ Tryd.results23 _ _ w.heap.size [.string a, .string p, .bool true] _ _ rfl rfl (bx_list FB.out.1) Tryd.underlying27 rfl (by kernel_rfl)
        · rw [decide_eq_false hx] at hXs
          obtain ⟨rfl, rfl⟩ : R = ⟨⟨#[]⟩, ⟨#[]⟩, false⟩ ∧ E = 6 := by
            rcases HRC.out with ⟨_, h, _⟩ | ⟨_, h⟩
            · exact absurd h hx
            · exact h
          clear HRC HX HV hx B6
          obtain ⟨⟨z0, z1, z2⟩, y0, y1, y2⟩ := Z6.out.cells
          have FB := Lib.hid (zb_put Z6.out K6.out (Nat.le_refl _) ⟨#[]⟩ ⟨#[]⟩ false)
          go_wp2_with fail
          refine bodyPost_ret_by (v := .tuple #[.agg #[.string ⟨#[]⟩, .string ⟨#[]⟩, .bool false], .int .i64 6]) ?_ rfl ⟨rfl, FB.out.2⟩
          exact results_slotQ Tryd.results23 _ _ w.heap.size [.string ⟨#[]⟩, .string ⟨#[]⟩, .bool false] _ _ rfl rfl (bx_list FB.out.1) Tryd.underlying27 rfl (by kernel_rfl)
end Go.Proofs.YtcooacjpblhblaaDoor
/-
  Permissions: the text and back (plain words); the reference's Text.
-/
namespace Go.Proofs.YtcooacjpblhblaaDoor
open Go.RowKit
set_option linter.unusedSimpArgs false
set_option linter.unusedVariables false

theorem indexByte_at : ∀ (l r : List UInt8) (c : UInt8), c ∉ l → Lib.indexByte (l ++ c :: r) c = (l.length : Int)
  | [], r, c, _ => by simp [Lib.indexByte]
  | b :: l, r, c, h => by
    have h1 : ¬ b = c := fun e => h (by rw [e]; exact List.mem_cons_self)
    have h2 : c ∉ l := fun e => h (List.mem_cons_of_mem _ e)
    have ih := indexByte_at l r c h2
    rw [List.cons_append]
    unfold Lib.indexByte
    rw [ih, if_neg (by simpa using h1)]
    have : ¬ ((l.length : Int) = -1) := by omega
    simp [this]
theorem valid_blank {a : ByteArray} (h : validS a = true) : (32 : UInt8) ∉ a.data.toList := by
  intro hm
  unfold validS at h
  simp only [Bool.and_eq_true] at h
  have hall := h.1.2
  obtain ⟨j, hj, he⟩ := List.getElem_of_mem hm
  have hjs : j < a.size := hj
  have := List.all_eq_true.1 hall j (List.mem_range.2 hjs)
  have hb : bat a j = 32 := by
    rw [← bat_at a j hjs]
    have e1 : a[j]'hjs = 32 := by
      have : a.data[j]'hjs = 32 := by simpa using he
      exact this
    rw [e1]; rfl
  rw [hb] at this
  revert this
  cases hz : decide (j ≠ 0) <;> simp [chrB, letB, digB, hz]
theorem txt_data (a r : ByteArray) : ((a ++ ⟨#[32]⟩) ++ r).data.toList = a.data.toList ++ 32 :: r.data.toList := by
  simp [ByteArray.data_append]
theorem cut_txt {a : ByteArray} (h : (32 : UInt8) ∉ a.data.toList) (r : ByteArray) : cutA ((a ++ ⟨#[32]⟩) ++ r) = a ∧ cutR ((a ++ ⟨#[32]⟩) ++ r) = r := by
  have hd := txt_data a r
  have hi : Lib.indexByte ((a ++ ⟨#[32]⟩) ++ r).data.toList 32 = (a.data.toList.length : Int) := by rw [hd]; exact indexByte_at _ _ _ h
  have hsz : ((a ++ ⟨#[32]⟩) ++ r).size = a.size + 1 + r.size := by rw [ByteArray.size_append, ByteArray.size_append]; rfl
  have hla : a.data.toList.length = a.size := rfl
  generalize (a ++ ⟨#[32]⟩) ++ r = s at *
  have h0 : ¬ Lib.indexByte s.data.toList 32 = -1 := by rw [hi]; omega
  have h1 : (Lib.indexByte s.data.toList 32).toNat = a.size := by rw [hi, hla]; exact Int.toNat_natCast _
  refine ⟨?_, ?_⟩
  · unfold cutA
    rw [if_neg h0, h1]
    apply str_ext
    rw [extract_list, hd]
    simp [hla]
  · unfold cutR
    rw [if_neg h0, h1]
    apply str_ext
    rw [extract_list, hd]
    have e1 : a.data.toList ++ 32 :: r.data.toList = (a.data.toList ++ [32]) ++ r.data.toList := by simp
    rw [e1, List.take_of_length_le (by have h9 : r.data.toList.length = r.size := rfl; rw [List.length_append, List.length_append, hla, h9]; show a.size + 1 + r.size ≤ _; omega)]
    exact List.drop_left' (by rw [List.length_append, hla]; rfl)

/-- A path has no star, and ends in no stroke, but the root. -/
theorem path_star {l : List ByteArray} (h : l.all nameS = true) : ∀ b ∈ (l.map (·.data.toList)).flatMap (fun x => 47 :: x), b ≠ 42 := by
  intro b hb e
  obtain ⟨x, hx, hbx⟩ := List.mem_flatMap.1 hb
  obtain ⟨y, hy, rfl⟩ := List.mem_map.1 hx
  have hn := List.all_eq_true.1 h y hy
  rcases List.mem_cons.1 hbx with h1 | h1
  · rw [h1] at e; cases e
  · unfold nameS nameL at hn
    simp only [Bool.and_eq_true] at hn
    have := List.all_eq_true.1 hn.1.1.2 b h1
    rw [e] at this
    revert this; decide
theorem path_end {l : List ByteArray} (h : l.all nameS = true) (hne : l ≠ []) : ∃ b, ((l.map (·.data.toList)).flatMap (fun x => 47 :: x)).getLast? = some b ∧ b ≠ 47 := by
  obtain ⟨init, y, rfl⟩ : ∃ init y, l = init ++ [y] := ⟨l.dropLast, l.getLast hne, (List.dropLast_concat_getLast hne).symm⟩
  have hn := List.all_eq_true.1 h y (by simp)
  have hf : 47 ∉ y.data.toList := nameL_free hn
  unfold nameS nameL at hn
  simp only [Bool.and_eq_true, decide_eq_true_eq] at hn
  have hy : y.data.toList ≠ [] := fun e => by rw [e] at hn; simp at hn
  refine ⟨y.data.toList.getLast hy, ?_, fun e => hf (e ▸ List.getLast_mem hy)⟩
  rw [List.map_append, List.flatMap_append]
  simp only [List.map_cons, List.map_nil, List.flatMap_cons, List.flatMap_nil, List.append_nil]
  have e9 : (47 :: y.data.toList).getLast? = some (y.data.toList.getLast hy) := by
    rw [List.getLast?_cons, List.getLast?_eq_some_getLast hy]; rfl
  rw [List.getLast?_append, e9]; rfl
theorem suffix_last {s p : List UInt8} {c : UInt8} (h : Lib.hasSuffix s (p ++ [c]) = true) : s.getLast? = some c := by
  unfold Lib.hasSuffix at h
  obtain ⟨t, rfl⟩ := List.isSuffixOf_iff_suffix.1 h
  rw [← List.append_assoc, List.getLast?_append]; simp
theorem path_ends {p : ByteArray} (h : (namesS p).isSome = true) : (∀ b ∈ p.data.toList, b ≠ 42) ∧ (p = ⟨#[47]⟩ ∨ (p ≠ ⟨#[47]⟩ ∧ trS p = p ∧ p ≠ ⟨#[]⟩)) := by
  cases hn : namesS p with
  | none => rw [hn] at h; cases h
  | some l =>
    obtain ⟨rfl, h2, h3⟩ := pathS_names hn
    cases l with
    | nil => exact ⟨by intro b hb; have : b = 47 := by simpa [pathS, pathL, mkS] using hb
                       rw [this]; decide, Or.inl rfl⟩
    | cons x t =>
      have hd : (pathS (x :: t)).data.toList = ((x :: t).map (·.data.toList)).flatMap (fun x => 47 :: x) := by unfold pathS; rw [mkS_list]; rfl
      obtain ⟨b, hb, hb2⟩ := path_end h2 (List.cons_ne_nil x t)
      rw [← hd] at hb
      have hns : Lib.hasSuffix (pathS (x :: t)).data.toList [47] = false := by
        cases hq : Lib.hasSuffix (pathS (x :: t)).data.toList [47] with
        | false => rfl
        | true =>
          have := suffix_last (p := []) hq
          rw [hb] at this
          exact absurd (Option.some.inj this) hb2
      have htr : trS (pathS (x :: t)) = pathS (x :: t) := by
        apply str_ext
        show (mkS (Lib.trimSuffix (pathS (x :: t)).data.toList [47])).data.toList = _
        rw [mkS_list]
        unfold Lib.trimSuffix
        rw [hns]; rfl
      refine ⟨by rw [hd]; exact path_star h2, Or.inr ⟨?_, htr, ?_⟩⟩
      · intro e; rw [e] at hb; exact hb2 (Option.some.inj hb).symm
      · intro e; rw [e] at hb; cases hb
theorem trS_root : trS ⟨#[47]⟩ = ⟨#[]⟩ := by
  apply str_ext
  show (mkS (Lib.trimSuffix [47] [47])).data.toList = []
  rw [mkS_list]
  rfl

/-- Parse undoes Text. -/
theorem prs_txt {x : Per} (h : okP x = true) : prsC (txtP x) = x := by
  have hb := valid_blank (okP_name h)
  obtain ⟨hs, hp⟩ := path_ends (okP_path h)
  obtain ⟨a, p, d⟩ := x
  simp only at hb hs hp
  unfold txtP
  rw [if_pos h]
  simp only
  cases d with
  | false =>
    rw [if_neg (by simp)]
    obtain ⟨c1, c2⟩ := cut_txt hb p
    have hns : Lib.hasSuffix p.data.toList [47, 42] = false := by
      cases hq : Lib.hasSuffix p.data.toList [47, 42] with
      | false => rfl
      | true =>
        have := suffix_last (p := [47]) hq
        exact absurd rfl (hs 42 (List.mem_of_getLast? this))
    unfold prsC prsT prsD
    rw [c1, c2, hns]
    simp only [Bool.false_and, Bool.false_eq_true, if_false]
    refine per_ext rfl ?_ rfl
    show mkS (Lib.trimSuffix p.data.toList [47, 42]) = p
    unfold Lib.trimSuffix
    rw [hns]
    exact mkS_data p
  | true =>
    rw [if_pos rfl]
    have e1 : ((a ++ ⟨#[32]⟩) ++ trS p) ++ ⟨#[47, 42]⟩ = (a ++ ⟨#[32]⟩) ++ (trS p ++ ⟨#[47, 42]⟩) := by
      apply str_ext; simp [ByteArray.data_append]
    rw [e1]
    obtain ⟨c1, c2⟩ := cut_txt hb (trS p ++ ⟨#[47, 42]⟩)
    have hd : (trS p ++ ⟨#[47, 42]⟩ : ByteArray).data.toList = (trS p).data.toList ++ [47, 42] := by simp [ByteArray.data_append]
    have hns : Lib.hasSuffix ((trS p).data.toList ++ [47, 42]) [47, 42] = true := by
      unfold Lib.hasSuffix
      exact List.isSuffixOf_iff_suffix.2 ⟨_, rfl⟩
    have htt : mkS (Lib.trimSuffix ((trS p).data.toList ++ [47, 42]) [47, 42]) = trS p := by
      unfold Lib.trimSuffix
      rw [hns, if_pos rfl]
      apply str_ext
      rw [mkS_list]
      simp
    unfold prsC prsT prsD
    rw [c1, c2, hd, hns, htt]
    refine per_ext rfl ?_ rfl
    simp only [Bool.true_and]
    rcases hp with rfl | ⟨h1, h2, h3⟩
    · rw [trS_root]; rfl
    · rw [h2, if_neg (by simpa using h3)]
theorem prs_nil : prsOk ⟨#[]⟩ = false := by
  have h : okP (prsC ⟨#[]⟩) = false := by
    unfold okP
    have : validS (prsC ⟨#[]⟩).a = false := by rfl
    rw [this]; rfl
  unfold prsOk
  rw [h]; rfl
theorem txtP_size (x : Per) (h : x.p.size ≤ 20000) : (txtP x).size ≤ 100000 := by
  unfold txtP
  split
  · rename_i hx
    have h1 := (okP_small hx).1
    have h2 := trS_size x.p
    split
    · rw [ByteArray.size_append, ByteArray.size_append, ByteArray.size_append]
      show x.a.size + 1 + (trS x.p).size + 2 ≤ _
      omega
    · rw [ByteArray.size_append, ByteArray.size_append]
      show x.a.size + 1 + x.p.size ≤ _
      omega
  · exact Nat.zero_le _
end Go.Proofs.YtcooacjpblhblaaDoor
/-
  The reference's Text of a permission.
-/
namespace Go.Proofs.YtcooacjpblhblaaDoor
open Go.RowKit
set_option linter.unusedSimpArgs false
set_option linter.unusedVariables false
set_option maxRecDepth 100000

set_option maxHeartbeats 3200000 in
theorem rtxt_any (x : Per) (hs : x.p.size ≤ 100000) (w : World) :
    Calls Tryd.prog 22 #[perV x] w fun e w' => e = .returned (.string (txtP x)) ∧ Kept (fun _ => False) w w' := by
  have HC := Lib.hid (fun W => rcheck_any x hs W)
  obtain ⟨V, hV⟩ : ∃ V, V = txtP x := ⟨_, rfl⟩
  rw [← hV]
  unfold txtP at hV
  have hz := chkP_zero x
  have hsm : okP x = true → x.a.size ≤ 12 ∧ x.p.size ≤ 10000 := fun h => okP_small h
  have hpe : okP x = true → (x.p = ⟨#[47]⟩ ∨ (x.p ≠ ⟨#[47]⟩ ∧ trS x.p = x.p)) := fun h => by
    rcases (path_ends (okP_path h)).2 with h1 | h1
    · exact Or.inl h1
    · exact Or.inr ⟨h1.1, h1.2.1⟩
  obtain ⟨a, p, d⟩ := x
  unfold perV at *
  simp only at hV hsm hpe
  generalize okP ⟨a, p, d⟩ = O at *
  generalize chkP ⟨a, p, d⟩ = C at *
  have HB := Lib.hid (Bx.new w a p d 28)
  have HK := Lib.hid (Kept.alloc (fun _ => False) w (.cells #[.string a, .string p, .bool d] 28))
  have HV := Lib.hid hV
  have HSM := Lib.hid hsm
  have HPE := Lib.hid hpe
  have HZ := Lib.hid hz
  clear hs hV hsm hpe hz
  go_enter Tryd.func22, Tryd.ntmps22
  go_wp2_with fail
  refine (HC.out _).mono ?_
  generalize w.alloc (.cells #[.string a, .string p, .bool d] 28) = W1 at *
  generalize w.heap.size = Q at *
  rintro e w2 ⟨rfl, k2⟩
  obtain ⟨c0, c1, c2⟩ := HB.out.stay k2
  have HK2 := Lib.hid (HK.out.then k2)
  clear k2 HC HB HK
  cases O with
  | false =>
    have hv : V = ⟨#[]⟩ := by rw [HV.out]; rfl
    have hc : ¬ C = 0 := fun h => by have := HZ.out.1 h; cases this
    have hc2 : (C == 0) = false := by simpa using hc
    clear HV HZ HSM HPE
    subst hv
    go_wp2_with fail
    go_ret
    exact ⟨rfl, HK2.out⟩
  | true =>
    obtain rfl : C = 0 := HZ.out.2 rfl
    obtain ⟨h1, h2⟩ := HSM.out rfl
    have g1 : ¬ 9223372036854775807 < a.size + 1 := by omega
    have g2 : ¬ 9223372036854775807 < a.size + 1 + p.size := by omega
    have g3 : ¬ 9223372036854775807 < a.size + 1 + p.size + 2 := by omega
    have g4 : ¬ 9223372036854775807 < a.size + 1 + p.size + 1 := by omega
    have hp := HPE.out rfl
    clear h1 h2 HSM HPE HZ
    cases d with
    | false =>
      have HV2 : Hid (V = (a ++ ⟨#[32]⟩) ++ p) := Lib.hid (by rw [HV.out]; rfl)
      clear HV hp
      go_wp2_with fail
      go_ret
      exact ⟨by rw [HV2.out]; rfl, HK2.out⟩
    | true =>
      by_cases e : p = ⟨#[47]⟩
      · subst e
        have HV2 : Hid (V = ((a ++ ⟨#[32]⟩) ++ ⟨#[47]⟩) ++ ⟨#[42]⟩) := Lib.hid (by
          rw [HV.out, if_pos rfl, if_pos rfl, trS_root]
          apply str_ext; simp [ByteArray.data_append])
        clear HV hp
        have g5 : ¬ 9223372036854775807 < a.size + 1 + 1 + 1 := by have h9 : (⟨#[47]⟩ : ByteArray).size = 1 := rfl; rw [h9] at g4; exact g4
        have g6 : ¬ 9223372036854775807 < a.size + 1 + 1 := by omega
        clear g2 g3 g4
        go_wp2_with fail
        go_ret
        exact ⟨by rw [HV2.out]; rfl, HK2.out⟩
      · have HV2 : Hid (V = ((a ++ ⟨#[32]⟩) ++ p) ++ ⟨#[47, 42]⟩) := Lib.hid (by
          rw [HV.out, if_pos rfl, if_pos rfl, (hp.resolve_left e).2])
        have hq := str_eq p ⟨#[47]⟩
        rw [decide_eq_false e] at hq
        have e0 : ¬ p.toList = [47] := toList_ne (l := [47]) e
        have e0b : (p.toList == [47]) = false := by simp [e0]
        clear HV hp e
        go_wp2_with fail
        go_ret
        exact ⟨by rw [HV2.out]; rfl, HK2.out⟩
end Go.Proofs.YtcooacjpblhblaaDoor
/-
  PermissionTexts returns true.
-/
namespace Go.Proofs.YtcooacjpblhblaaDoor
open Go.RowKit
set_option linter.unusedSimpArgs false
set_option linter.unusedVariables false
set_option maxRecDepth 100000

/-- Parse of a text, by the permission whose text it is. -/
theorem prs_of (x : Per) : (¬ chkP x = 0 ∧ txtP x = ⟨#[]⟩ ∧ prsR (txtP x) = per0 ∧ prsE (txtP x) = 6) ∨ (chkP x = 0 ∧ prsR (txtP x) = x ∧ prsE (txtP x) = 0) := by
  by_cases h : chkP x = 0
  · right
    have h2 := (chkP_zero x).1 h
    have h3 := prs_txt h2
    have h4 : prsOk (txtP x) = true := by
      unfold prsOk
      rw [h3, h2, Bool.true_and]
      simp
    refine ⟨h, ?_, ?_⟩
    · unfold prsR; rw [h4, if_pos rfl]; exact h3
    · unfold prsE; rw [h4]; rfl
  · left
    have h2 : okP x = false := by
      cases hq : okP x with
      | false => rfl
      | true => exact absurd ((chkP_zero x).2 hq) h
    have h3 : txtP x = ⟨#[]⟩ := by unfold txtP; rw [h2]; rfl
    refine ⟨h, h3, ?_, ?_⟩
    · rw [h3]; unfold prsR; rw [prs_nil]; rfl
    · rw [h3]; unfold prsE; rw [prs_nil]; rfl
theorem prs_any (s : ByteArray) : (prsE s = 0 ∧ txtP (prsR s) = s) ∨ (prsE s = 6 ∧ prsR s = per0) := by
  rcases prs_cases s with ⟨h1, h2, h3⟩ | ⟨h1, h2, h3⟩
  · left
    refine ⟨h3, ?_⟩
    rw [h2]
    unfold prsOk at h1
    simp only [Bool.and_eq_true, decide_eq_true_eq] at h1
    exact h1.2
  · exact Or.inr ⟨h3, h2⟩
theorem prsR_size (s : ByteArray) (hs : s.size ≤ 100000) : (prsR s).p.size ≤ 100000 := by
  have h := prsC_size s hs
  rcases prs_cases s with ⟨_, h2, _⟩ | ⟨_, h2, _⟩
  · rw [h2]; exact h
  · rw [h2]; exact Nat.zero_le _

set_option maxHeartbeats 6400000 in
theorem texts11_any (v0 : Value) (r0 : RawP) (s : ByteArray) (B : Nat) (w : World) (h0 : RawIn w v0 r0 B) (hs : s.size ≤ 9223372036854775807) :
    Calls Tryd.prog 7 #[v0, .string s] w fun e w' => e = .returned (.bool true) ∧ Kept (fun _ => False) w w' := by
  obtain ⟨k, hk⟩ : ∃ k, k = Nat.min s.size 60 := ⟨_, rfl⟩
  have hk1 : k ≤ s.size := by rw [hk]; exact Nat.min_le_left _ _
  have hk2 : k ≤ 60 := by rw [hk]; exact Nat.min_le_right _ _
  have hki : min (s.size : Int) 60 = (k : Int) := by
    rcases Nat.lt_or_ge 60 s.size with h | h
    · have : k = 60 := by rw [hk]; exact Nat.min_eq_right (by omega)
      omega
    · have : k = s.size := by rw [hk]; exact Nat.min_eq_left h
      omega
  have hk3 : (k : Int) ≤ (s.size : Int) := by omega
  have hk0 : (0 : Int) ≤ (k : Int) := by omega
  have hz : (s.extract 0 k).size ≤ 60 := by rw [ByteArray.size_extract]; omega
  obtain ⟨z, hzz⟩ : ∃ z, z = s.extract 0 k := ⟨_, rfl⟩
  rw [← hzz] at hz
  have HZZ := Lib.hid hzz
  clear hk hk1 hk2 hs hzz
  have HM0 := Lib.hid (fun W (hk : Kept (fun _ => False) w W) => make11_any v0 r0 B W (h0.kept hk (fun _ _ h => h)))
  have hsz0 := per_size r0
  obtain ⟨nv0, rfl, _⟩ := h0
  obtain ⟨n0, xs0, e0⟩ := r0
  simp only at HM0 ⊢
  generalize RawP.per ⟨n0, xs0, e0⟩ = x0 at *
  have hts := txtP_size x0 hsz0.2
  have HX := Lib.hid (fun W => ptext_any x0 (by omega) W)
  have HRX := Lib.hid (fun W => rtxt_any x0 (by omega) W)
  have HCK := Lib.hid (fun W => rcheck_any x0 (by omega) W)
  have HP1 := Lib.hid (fun W => pparse_any (txtP x0) hts W)
  have HP2 := Lib.hid (fun W => pparse_any z (by omega) W)
  have HX2 := Lib.hid (fun W => ptext_any (prsR z) (by have := prsR_size z (by omega); omega) W)
  have HCS := Lib.hid (prs_of x0)
  have HCZ := Lib.hid (prs_any z)
  generalize chkP x0 = C at *
  generalize prsR (txtP x0) = R at *
  generalize prsE (txtP x0) = E at *
  generalize txtP x0 = T at *
  generalize txtP (prsR z) = T2 at *
  generalize prsR z = S at *
  generalize prsE z = F at *
  clear hts hz
  obtain ⟨a0, p0, d0⟩ := x0
  unfold perV at *
  obtain ⟨ra, rp, rd⟩ := R
  obtain ⟨sa, sp, sd⟩ := S
  simp only at HM0 HX HRX HCK HP1 HP2 HX2
  have HZ0 := Lib.hid (Zb.new w 24 (.int .u8 n0) nv0 (.bool e0))
  have HK := Lib.hid (Kept.alloc (fun _ => False) w (.cells #[.int .u8 n0, nv0, .bool e0] 24))
  clear hsz0 
  go_enter Tryd.func7, Tryd.ntmps7
  go_wp2_with fail
  refine (awake11_any _).mono ?_
  generalize w.alloc (.cells #[.int .u8 n0, nv0, .bool e0] 24) = W1 at *
  rintro e w2 ⟨rfl, k2⟩
  have K2 := Lib.hid (HK.out.then k2)
  have Z0 := Lib.hid (HZ0.out.kept k2 (fun h => h))
  clear k2 HK HZ0
  obtain ⟨⟨c0, c1, c2⟩, _⟩ := Z0.out.cells
  go_wp2_with fail
  refine (HM0.out _ K2.out).mono ?_
  rintro e w3 ⟨rfl, k3⟩
  have BP0 := Lib.hid ((Bx.new w3 a0 p0 d0 27).stay (Kept.alloc (fun _ => False) _ (.cells #[.string a0, .string p0, .bool d0] 28)))
  have BQ0 := Lib.hid (Bx.new (w3.alloc (.cells #[.string a0, .string p0, .bool d0] 27)) a0 p0 d0 28)
  have g1 : (w3.alloc (.cells #[.string a0, .string p0, .bool d0] 27)).heap.size = w3.heap.size + 1 := by simp
  rw [g1] at BQ0
  have KA := k3.then ((Kept.alloc (fun _ => False) w3 (.cells #[.string a0, .string p0, .bool d0] 27)).then (Kept.alloc (fun _ => False) _ (.cells #[.string a0, .string p0, .bool d0] 28)))
  have K3 := Lib.hid (K2.out.then KA)
  clear k3 c0 c1 c2 KA g1 K2 HM0 Z0
  obtain ⟨x00, x01, x02⟩ := BP0.out
  obtain ⟨y00, y01, y02⟩ := BQ0.out
  go_wp2_with fail
  generalize (w3.alloc (.cells #[.string a0, .string p0, .bool d0] 27)).alloc (.cells #[.string a0, .string p0, .bool d0] 28) = w4 at *
  generalize w3.heap.size = P0 at *
  have K4 := K3
  clear K3 x00 x01 x02 y00 y01 y02
  refine (HX.out _).mono ?_
  rintro e w5 ⟨rfl, j⟩
  replace K4 := Lib.hid (K4.out.then j); replace BP0 := Lib.hid (BP0.out.stay j); replace BQ0 := Lib.hid (BQ0.out.stay j)
  clear j
  obtain ⟨y00, y01, y02⟩ := BQ0.out
  go_wp2_with fail
  refine (HRX.out _).mono ?_
  rintro e w6 ⟨rfl, j⟩
  replace K4 := Lib.hid (K4.out.then j); replace BP0 := Lib.hid (BP0.out.stay j); replace BQ0 := Lib.hid (BQ0.out.stay j)
  clear j y00 y01 y02 HX HRX
  go_wp2_with fail
  refine (HP1.out _).mono ?_
  rintro e w7 ⟨rfl, j⟩
  have BR := Lib.hid (Bx.new w7 ra rp rd 27)
  have KA := j.then (Kept.alloc (fun _ => False) w7 (.cells #[.string ra, .string rp, .bool rd] 27))
  replace K4 := Lib.hid (K4.out.then KA); replace BP0 := Lib.hid (BP0.out.stay KA); replace BQ0 := Lib.hid (BQ0.out.stay KA)
  clear j KA HP1
  obtain ⟨y00, y01, y02⟩ := BQ0.out
  go_wp2_with fail
  generalize w7.alloc (.cells #[.string ra, .string rp, .bool rd] 27) = W7 at *
  generalize w7.heap.size = Q at *
  refine (HCK.out _).mono ?_
  rintro e w8 ⟨rfl, j⟩
  replace K4 := Lib.hid (K4.out.then j); replace BP0 := Lib.hid (BP0.out.stay j); replace BR := Lib.hid (BR.out.stay j)
  clear j y00 y01 y02 HCK BQ0
  obtain ⟨x00, x01, x02⟩ := BP0.out
  obtain ⟨r00, r01, r02⟩ := BR.out
  rcases HCS.out with ⟨hc, rfl, hr, rfl⟩ | ⟨rfl, hr, rfl⟩
  · cases hr
    have hc2 : (C == 0) = false := by simpa using hc
    clear HCS BP0 BR HP2 HX2 HCZ
    go_wp2_with fail
    go_ret
    exact ⟨rfl, K4.out⟩
  · cases hr
    clear HCS r00 r01 r02 x00 x01 x02
    go_wp2_with fail
    rw [← HZZ.out]
    refine (HP2.out _).mono ?_
    rintro e w9 ⟨rfl, j⟩
    have BS := Lib.hid (Bx.new w9 sa sp sd 27)
    have KA := j.then (Kept.alloc (fun _ => False) w9 (.cells #[.string sa, .string sp, .bool sd] 27))
    replace K4 := Lib.hid (K4.out.then KA); replace BP0 := Lib.hid (BP0.out.stay KA); replace BR := Lib.hid (BR.out.stay KA)
    clear j KA HP2 HZZ hki hk3 hk0
    obtain ⟨x00, x01, x02⟩ := BP0.out
    obtain ⟨r00, r01, r02⟩ := BR.out
    obtain ⟨s00, s01, s02⟩ := BS.out
    rcases HCZ.out with ⟨rfl, ht⟩ | ⟨rfl, hr⟩
    · subst ht
      clear HCZ
      go_wp2_with fail
      generalize w9.alloc (.cells #[.string sa, .string sp, .bool sd] 27) = W9 at *
      generalize w9.heap.size = Q9 at *
      refine (HX2.out _).mono ?_
      rintro e w10 ⟨rfl, j⟩
      replace K4 := Lib.hid (K4.out.then j); replace BP0 := Lib.hid (BP0.out.stay j); replace BR := Lib.hid (BR.out.stay j)
      clear j x00 x01 x02 r00 r01 r02 s00 s01 s02 BS HX2
      obtain ⟨x00, x01, x02⟩ := BP0.out
      obtain ⟨r00, r01, r02⟩ := BR.out
      clear BP0 BR
      go_wp2_with fail
      go_ret
      exact ⟨rfl, K4.out⟩
    · cases hr
      clear HCZ HX2 BP0 BR BS
      go_wp2_with fail
      go_ret
      exact ⟨rfl, K4.out⟩
end Go.Proofs.YtcooacjpblhblaaDoor
/-
  Raw permissions as they come in.
-/
namespace Go.Proofs.YtcooacjpblhblaaDoor
open Go.Joins Go.ChangeShapes Go.WideShapes Go.ChangeAt Go.RowKit Go.Deep
set_option linter.unusedSimpArgs false
set_option linter.unusedVariables false
set_option linter.constructorNameAsVariable false

theorem u8_natQ (a : Int) (h : (Lit.int .u8 a).wf = true) : ∃ n : Nat, a = (n : Int) ∧ n < 256 := by
  simp [Lit.wf, IntKind.min, IntKind.max, IntKind.signed, IntKind.bits] at h
  exact ⟨a.toNat, by omega, by omega⟩
set_option maxRecDepth 100000 in
theorem raw11_in {H : Type} {enc : TypeId × Value → H} {W : World} {base : Nat} {v : Value} {d : DataW H} {p : List MemPlace} (o : Value.okWide Tryd.prog W .any base 24 v) (h : DataW.Trod enc Tryd.prog W 0 (fun _ => true) true 24 v d p) :
    ∃ r : RawP, RawIn W v r W.heap.size := by
  obtain ⟨v0, v1, v2, y0, y1, y2, n, rfl, _, _, t0, t1, t2⟩ := open_agg3 Tryd.underlying24 (by kernel_rfl) (by kernel_rfl) o h
  obtain ⟨i0, e0, _, w0⟩ := DataW.trod_int Tryd.underlying5 t0
  obtain ⟨b, e2, _⟩ := DataW.trod_bool Tryd.underlying4 t2
  injection e0 with e0; injection e2 with e2
  subst e0 e2
  obtain ⟨n0, rfl, h0⟩ := u8_natQ _ w0
  obtain ⟨xs, hl, hx⟩ := loose_of t1
  exact ⟨⟨n0, xs, b⟩, v1, rfl, hl, h0, hx, hl.le⟩
end Go.Proofs.YtcooacjpblhblaaDoor
/-
  A string that came in, with its length.
-/
namespace Go.Proofs.YtcooacjpblhblaaDoor
open Go.ChangeShapes Go.WideShapes Go.ChangeAt Go.RowKit Go.Joins Go.ChangeMaps

set_option linter.constructorNameAsVariable false
set_option maxRecDepth 100000 in
theorem str_in2 {H : Type} {enc : TypeId × Value → H} {W : World} {base : Nat} {v : Value} {d : DataW H} {p : List MemPlace} (o : Value.okWide Tryd.prog W .any base 9 v) (h : DataW.Trod enc Tryd.prog W 0 (fun _ => true) true 9 v d p) : ∃ s : ByteArray, v = .string s ∧ s.size ≤ 9223372036854775807 := by
  obtain ⟨s, h1, _, _, h4⟩ := open_string Tryd.underlying9 o h
  exact ⟨s, h1, by unfold maxLen at h4; omega⟩
end Go.Proofs.YtcooacjpblhblaaDoor
