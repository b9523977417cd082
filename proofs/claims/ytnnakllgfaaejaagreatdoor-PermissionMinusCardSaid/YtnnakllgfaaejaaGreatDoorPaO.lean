/-
  Paths: the order.
-/
import Derived.Test.YtnnakllgfaaejaaGreatDoorPaD
namespace Go.Proofs.YtnnakllgfaaejaaGreatDoor
open Go.RowKit
set_option linter.unusedSimpArgs false
set_option linter.unusedVariables false

/-- Three ways, and which. -/
theorem cmpB_cases : ∀ a b : List UInt8, (Lib.compareBytes a b = -1 ∧ Op.bytesLess a b = true ∧ a ≠ b) ∨ (Lib.compareBytes a b = 0 ∧ Op.bytesLess a b = false ∧ a = b) ∨ (Lib.compareBytes a b = 1 ∧ Op.bytesLess a b = false ∧ a ≠ b)
  | [], [] => by simp [Lib.compareBytes, Op.bytesLess]
  | [], y :: b => by simp [Lib.compareBytes, Op.bytesLess]
  | x :: a, [] => by simp [Lib.compareBytes, Op.bytesLess]
  | x :: a, y :: b => by
    have ih := cmpB_cases a b
    unfold Lib.compareBytes Op.bytesLess
    by_cases h1 : x < y
    · have hne : x ≠ y := fun e => by subst e; exact absurd h1 (UInt8.lt_irrefl x)
      simp [h1, hne]
    · by_cases h2 : y < x
      · have hne : x ≠ y := fun e => by subst e; exact absurd h2 (UInt8.lt_irrefl x)
        simp [h1, h2, hne]
      · have he : x = y := by
          have a1 : ¬ x.toNat < y.toNat := fun h => h1 (UInt8.lt_iff_toNat_lt.2 h)
          have a2 : ¬ y.toNat < x.toNat := fun h => h2 (UInt8.lt_iff_toNat_lt.2 h)
          exact UInt8.toNat_inj.1 (by omega)
        subst he
        simpa [h1] using ih

set_option maxRecDepth 100000 in
theorem ccmp_any (a b : ByteArray) (w : World) : Calls Tryz.prog 95 #[.string a, .string b] w fun e w' => e = .returned (.int .i64 (Lib.compareBytes a.data.toList b.data.toList)) ∧ w = w' := by
  have h := cmpB_cases a.data.toList b.data.toList
  rw [← ByteArray.toList_eq, ← ByteArray.toList_eq] at h ⊢
  rcases h with ⟨h1, h2, h3⟩ | ⟨h1, h2, h3⟩ | ⟨h1, h2, h3⟩
  · rw [h1]
    clear h1 h3
    go_enter Tryz.func95, Tryz.ntmps95
    go_wp2
    go_ret
    exact ⟨rfl, rfl⟩
  · rw [h1]
    have hb : (a.toList == b.toList) = true := by rw [h3]; simp
    clear h1 h3
    go_enter Tryz.func95, Tryz.ntmps95
    go_wp2
    go_ret
    exact ⟨rfl, rfl⟩
  · rw [h1]
    have hb : (a.toList == b.toList) = false := beq_eq_false_iff_ne.2 h3
    clear h1 h3
    go_enter Tryz.func95, Tryz.ntmps95
    go_wp2
    go_ret
    exact ⟨rfl, rfl⟩

def cmpB (a b : ByteArray) : Int := Lib.compareBytes a.data.toList b.data.toList
theorem cmpB_zero {a b : ByteArray} : cmpB a b = 0 ↔ a = b := by
  unfold cmpB
  rcases cmpB_cases a.data.toList b.data.toList with ⟨h1, _, h3⟩ | ⟨h1, _, h3⟩ | ⟨h1, _, h3⟩
  · exact ⟨fun e => by omega, fun e => absurd (by rw [e]) h3⟩
  · exact ⟨fun _ => str_ext h3, fun _ => h1⟩
  · exact ⟨fun e => by omega, fun e => absurd (by rw [e]) h3⟩
/-- The order of lists of names. -/
def cmpN : List ByteArray → List ByteArray → Int
  | [], [] => 0
  | [], _ :: _ => -1
  | _ :: _, [] => 1
  | x :: a, y :: b => if cmpB x y = 0 then cmpN a b else cmpB x y
theorem cmpN_at : ∀ (a b : List ByteArray) (k : Nat), k ≤ a.length → k ≤ b.length → (∀ i, i < k → a.getD i ⟨#[]⟩ = b.getD i ⟨#[]⟩) → cmpN a b = cmpN (a.drop k) (b.drop k)
  | a, b, 0, _, _, _ => by simp
  | [], b, k + 1, h, _, _ => by simp at h
  | x :: a, [], k + 1, _, h, _ => by simp at h
  | x :: a, y :: b, k + 1, h1, h2, h => by
    have h0 := h 0 (by omega)
    simp at h0
    subst h0
    have := cmpN_at a b k (by simpa using h1) (by simpa using h2) (fun i hi => by have := h (i + 1) (by omega); simpa using this)
    rw [List.drop_succ_cons, List.drop_succ_cons, ← this, cmpN, if_pos (cmpB_zero.2 rfl)]
theorem cmpN_stop {a b : List ByteArray} {k : Nat} (h : ∀ i, i < k → a.getD i ⟨#[]⟩ = b.getD i ⟨#[]⟩) (ha : k < a.length) (hb : k < b.length) (hne : cmpB (a.getD k ⟨#[]⟩) (b.getD k ⟨#[]⟩) ≠ 0) : cmpN a b = cmpB (a.getD k ⟨#[]⟩) (b.getD k ⟨#[]⟩) := by
  rw [cmpN_at a b k (by omega) (by omega) h, List.drop_eq_getElem_cons ha, List.drop_eq_getElem_cons hb]
  have e1 : a.getD k ⟨#[]⟩ = a[k] := by simp [List.getD, ha]
  have e2 : b.getD k ⟨#[]⟩ = b[k] := by simp [List.getD, hb]
  rw [e1, e2] at hne ⊢
  rw [cmpN, if_neg hne]
theorem cmpN_left {a b : List ByteArray} (h : ∀ i, i < b.length → a.getD i ⟨#[]⟩ = b.getD i ⟨#[]⟩) (hb : b.length < a.length) : cmpN a b = 1 := by
  rw [cmpN_at a b b.length (by omega) (Nat.le_refl _) h, List.drop_length, List.drop_eq_getElem_cons hb]
  rfl
theorem cmpN_right {a b : List ByteArray} (h : ∀ i, i < a.length → a.getD i ⟨#[]⟩ = b.getD i ⟨#[]⟩) (hb : a.length < b.length) : cmpN a b = -1 := by
  rw [cmpN_at a b a.length (Nat.le_refl _) (by omega) h, List.drop_length, List.drop_eq_getElem_cons hb]
  rfl
theorem cmpN_same {a b : List ByteArray} (h : ∀ i, i < a.length → a.getD i ⟨#[]⟩ = b.getD i ⟨#[]⟩) (hb : a.length = b.length) : cmpN a b = 0 := by
  rw [cmpN_at a b a.length (Nat.le_refl _) (by omega) h, List.drop_length, hb, List.drop_length]
  rfl

set_option maxRecDepth 100000 in
set_option maxHeartbeats 1600000 in
theorem scompare_any (v1 v2 : Value) (xs ys : List ByteArray) (w : World) (h1 : Strs w v1 xs) (h2 : Strs w v2 ys) :
    Calls Tryz.prog 84 #[v1, v2] w fun e w' => e = .returned (.int .i64 (cmpN xs ys)) ∧ w = w' := by
  obtain ⟨a1, c1, rfl, hc1, hm1⟩ := h1.form
  obtain ⟨a2, c2, rfl, hc2, hm2⟩ := h2.form
  unfold maxLen at hm1 hm2
  have H1 := Lib.hid h1; have H2 := Lib.hid h2
  obtain ⟨n, hn⟩ : ∃ n, n = xs.length := ⟨_, rfl⟩
  obtain ⟨m, hm⟩ : ∃ m, m = ys.length := ⟨_, rfl⟩
  have hnb : n ≤ 9223372036854775807 := by omega
  have hmb : m ≤ 9223372036854775807 := by omega
  obtain ⟨R, hR⟩ : ∃ R, R = cmpN xs ys := ⟨_, rfl⟩
  rw [← hn] at H1 ⊢
  rw [← hm] at H2 ⊢
  rw [← hR]
  have HN := Lib.hid hn; have HM := Lib.hid hm; have HR := Lib.hid hR
  clear h1 h2 hn hm hc1 hm1 hc2 hm2 hR
  go_enter Tryz.func84, Tryz.ntmps84
  go_wp2_with fail
  go_loop [11] (fun iv => ∃ k : Nat, k ≤ n ∧ k ≤ m ∧ iv = .int .i64 k ∧ Hid (∀ j, j < k → xs.getD j ⟨#[]⟩ = ys.getD j ⟨#[]⟩)) (fun iv => n - (intOf iv).toNat)
  case atStart => exact ⟨0, by omega, by omega, rfl, fun j hj => by omega⟩
  case round =>
    obtain ⟨k, hkn, hkm, rfl, heq⟩ := hrel
    have l0 : (0 : Int) ≤ (k : Int) := by omega
    by_cases hlt : k < n
    · have l1 : (k : Int) < (n : Int) := by omega
      obtain ⟨g, off, rfl, _, hcell⟩ := H1.out.at (k := k) (by have := HN.out; omega)
      by_cases hlt2 : k < m
      · have l2 : (k : Int) < (m : Int) := by omega
        have l3 : ¬ (m : Int) ≤ (k : Int) := by omega
        obtain ⟨g', off', rfl, _, hcell'⟩ := H2.out.at (k := k) (by have := HM.out; omega)
        obtain ⟨x, hx⟩ : ∃ x, x = xs.getD k ⟨#[]⟩ := ⟨_, rfl⟩
        obtain ⟨y, hy⟩ : ∃ y, y = ys.getD k ⟨#[]⟩ := ⟨_, rfl⟩
        rw [← hx] at hcell
        rw [← hy] at hcell'
        have HX := Lib.hid hx; have HY := Lib.hid hy
        have hcc := ccmp_any x y
        obtain ⟨q, hq⟩ : ∃ q, q = cmpB x y := ⟨_, rfl⟩
        rw [show Lib.compareBytes x.data.toList y.data.toList = q from hq.symm] at hcc
        have HCC := Lib.hid hcc
        clear hx hy hcc
        by_cases he : q = 0
        · have hxy : x = y := cmpB_zero.1 (by rw [← hq]; exact he)
          have heq2 : Hid (∀ j, j < k + 1 → xs.getD j ⟨#[]⟩ = ys.getD j ⟨#[]⟩) := fun j hj => by
            by_cases e : j < k
            · exact heq.out j e
            · obtain rfl : j = k := by omega
              rw [← HX.out, ← HY.out]; exact hxy
          clear heq hxy hq
          subst he
          go_wp2_with fail
          refine (HCC.out _).mono ?_
          rintro e w' ⟨rfl, rfl⟩
          go_wp2_with fail
          go_round
          case rel => exact ⟨k + 1, by omega, by omega, by go_num, heq2⟩
          case measure => simp [intOf]; omega
        · have hrf : R = q := by
            rw [HR.out, hq, HX.out, HY.out]
            exact cmpN_stop heq.out (by have := HN.out; omega) (by have := HM.out; omega) (by rw [← HX.out, ← HY.out, ← hq]; exact he)
          have heb : (q != 0) = true := by simpa using he
          clear heq hq
          subst hrf
          go_wp2_with fail
          refine (HCC.out _).mono ?_
          rintro e w' ⟨rfl, rfl⟩
          go_wp2_with fail
          go_ret
          exact ⟨rfl, rfl⟩
      · obtain rfl : k = m := by omega
        have l3 : (k : Int) ≤ (k : Int) := Int.le_refl _
        have hrf : R = 1 := by
          rw [HR.out]
          exact cmpN_left (by rw [← HM.out]; exact heq.out) (by rw [← HM.out, ← HN.out]; exact hlt)
        clear heq
        subst hrf
        go_wp2_with fail
        go_ret
        exact ⟨rfl, rfl⟩
    · obtain rfl : k = n := by omega
      have l1 : ¬ (k : Int) < (k : Int) := by omega
      by_cases hlt2 : k < m
      · have l2 : (k : Int) < (m : Int) := by omega
        have hrf : R = -1 := by
          rw [HR.out]
          exact cmpN_right (by rw [← HN.out]; exact heq.out) (by rw [← HM.out, ← HN.out]; exact hlt2)
        clear heq
        subst hrf
        go_wp2_with fail
        go_ret
        exact ⟨rfl, rfl⟩
      · have l2 : ¬ (k : Int) < (m : Int) := by omega
        have hrf : R = 0 := by
          rw [HR.out]
          exact cmpN_same (by rw [← HN.out]; exact heq.out) (by rw [← HM.out, ← HN.out]; omega)
        clear heq
        subst hrf
        go_wp2_with fail
        go_ret
        exact ⟨rfl, rfl⟩

/-- The order of texts as paths. -/
def compareS (p q : ByteArray) : Int := match namesS p, namesS q with
  | some a, some b => cmpN a b
  | some _, none => -1
  | none, some _ => 1
  | none, none => cmpB p q

theorem grow_then {a b c : World} (h : ∃ os, b = Go.Sort.grow a os) (k : ∃ os, c = Go.Sort.grow b os) : ∃ os, c = Go.Sort.grow a os := by
  obtain ⟨o1, rfl⟩ := h
  obtain ⟨o2, rfl⟩ := k
  exact ⟨_, Go.Sort.grow_grow _ _ _⟩

set_option maxRecDepth 100000 in
set_option maxHeartbeats 3200000 in
theorem compare_any (p q : ByteArray) (hp : p.size ≤ 1000000) (hq : q.size ≤ 1000000) (w : World) :
    Calls Tryz.prog 67 #[.string p, .string q] w fun e w' => e = .returned (.int .i64 (compareS p q)) ∧ Kept (fun _ => False) w w' ∧ ∃ os, w' = Go.Sort.grow w os := by
  have HCP := Lib.hid (split_any p hp)
  have HCQ := Lib.hid (split_any q hq)
  obtain ⟨V, hV⟩ : ∃ V, V = compareS p q := ⟨_, rfl⟩
  rw [← hV]
  unfold compareS at hV
  cases hP : namesS p with
  | none =>
    rw [hP] at HCP
    cases hQ : namesS q with
    | none =>
      rw [hQ] at HCQ
      rw [hP, hQ] at hV
      simp only at hV
      have hcc := sh_Cmp p q
      rw [show Lib.compareBytes p.data.toList q.data.toList = V from hV.symm] at hcc
      have HCC := Lib.hid hcc
      clear hP hQ hcc hV
      go_enter Tryz.func67, Tryz.ntmps67
      go_wp2_with fail
      refine (HCP.out _).mono ?_
      rintro e w1 ⟨v1, rfl, hr1⟩
      have HK1 := Lib.hid hr1.kept; have HG1 := Lib.hid hr1.gr
      clear hr1
      go_wp2_with fail
      refine (HCQ.out _).mono ?_
      rintro e w2 ⟨v2, rfl, hr2⟩
      have HK2 := Lib.hid hr2.kept; have HG2 := Lib.hid hr2.gr
      clear hr2
      go_wp2_with fail
      refine (HCC.out _).mono ?_
      rintro e w3 ⟨rfl, rfl⟩
      go_wp2_with fail
      go_ret
      exact ⟨rfl, HK1.out.then HK2.out, grow_then HG1.out HG2.out⟩
    | some ys =>
      rw [hQ] at HCQ
      rw [hP, hQ] at hV
      simp only at hV
      subst hV
      clear hP hQ
      go_enter Tryz.func67, Tryz.ntmps67
      go_wp2_with fail
      refine (HCP.out _).mono ?_
      rintro e w1 ⟨v1, rfl, hr1⟩
      have HK1 := Lib.hid hr1.kept; have HG1 := Lib.hid hr1.gr
      clear hr1
      go_wp2_with fail
      refine (HCQ.out _).mono ?_
      rintro e w2 ⟨v2, rfl, hr2⟩
      have HK2 := Lib.hid hr2.kept; have HG2 := Lib.hid hr2.gr
      clear hr2
      go_wp2_with fail
      go_ret
      exact ⟨rfl, HK1.out.then HK2.out, grow_then HG1.out HG2.out⟩
  | some xs =>
    rw [hP] at HCP
    cases hQ : namesS q with
    | none =>
      rw [hQ] at HCQ
      rw [hP, hQ] at hV
      simp only at hV
      subst hV
      clear hP hQ
      go_enter Tryz.func67, Tryz.ntmps67
      go_wp2_with fail
      refine (HCP.out _).mono ?_
      rintro e w1 ⟨v1, rfl, hr1⟩
      have HK1 := Lib.hid hr1.kept; have HG1 := Lib.hid hr1.gr
      clear hr1
      go_wp2_with fail
      refine (HCQ.out _).mono ?_
      rintro e w2 ⟨v2, rfl, hr2⟩
      have HK2 := Lib.hid hr2.kept; have HG2 := Lib.hid hr2.gr
      clear hr2
      go_wp2_with fail
      go_ret
      exact ⟨rfl, HK1.out.then HK2.out, grow_then HG1.out HG2.out⟩
    | some ys =>
      rw [hQ] at HCQ
      rw [hP, hQ] at hV
      simp only at hV
      have hsc := fun (v u : Value) (W : World) (h1 : Strs W v xs) (h2 : Strs W u ys) => scompare_any v u xs ys W h1 h2
      rw [← hV] at hsc
      have HSC := Lib.hid hsc
      have HP := Lib.hid hP; have HQ := Lib.hid hQ
      clear hP hQ hsc hV
      go_enter Tryz.func67, Tryz.ntmps67
      go_wp2_with fail
      refine (HCP.out _).mono ?_
      rintro e w1 ⟨v1, rfl, hr1⟩
      have hrow1 : Strs w1 v1 xs := by have := hr1.row; rw [HP.out] at this; exact this
      have HK1 := Lib.hid hr1.kept; have HG1 := Lib.hid hr1.gr
      have HR1 := Lib.hid hrow1
      clear hr1 hrow1
      go_wp2_with fail
      refine (HCQ.out _).mono ?_
      rintro e w2 ⟨v2, rfl, hr2⟩
      have hrow2 : Strs w2 v2 ys := by have := hr2.row; rw [HQ.out] at this; exact this
      have HK2 := Lib.hid hr2.kept; have HG2 := Lib.hid hr2.gr
      have hrow1 : Strs w2 v1 xs := HR1.out.kept HK2.out (fun _ _ h => h)
      have HS := Lib.hid (HSC.out _ _ w2 hrow1 hrow2)
      clear hr2 hrow1 hrow2
      go_wp2_with fail
      refine HS.out.mono ?_
      rintro e w3 ⟨rfl, rfl⟩
      go_wp2_with fail
      go_ret
      exact ⟨rfl, HK1.out.then HK2.out, grow_then HG1.out HG2.out⟩
end Go.Proofs.YtnnakllgfaaejaaGreatDoor
