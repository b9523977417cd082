/-
  Paths: Valid, Names, Depth of both, Parent, the reference's Of.
-/
import Derived.Test.YtndedphkgkmckaaDoorPaR
namespace Go.Proofs.YtndedphkgkmckaaDoor
open Go.RowKit
set_option linter.unusedSimpArgs false
set_option linter.unusedVariables false

/-- What the reference's Names answers. -/
structure NamesRes (w w' : World) (s : ByteArray) (v : Value) : Prop where
  row : Strs w' v ((namesS s).getD [])
  kept : Kept (fun _ => False) w w'
  own : ∀ k, v.ownBlock = some k → w.heap.size ≤ k

def depthS (s : ByteArray) : Int := match namesS s with
  | some l => l.length
  | none => -1

set_option maxRecDepth 100000 in
theorem pvalid_any (s : ByteArray) (hs : s.size ≤ 1000000) (w : World) :
    Calls Tryd.prog 34 #[.string s] w fun e w' => e = .returned (.bool (namesS s).isSome) ∧ Kept (fun _ => False) w w' := by
  have hc := split_any s hs
  obtain ⟨b, hb⟩ : ∃ b, b = (namesS s).isSome := ⟨_, rfl⟩
  rw [← hb] at hc ⊢
  have HC := Lib.hid hc
  clear hc hb
  go_enter Tryd.func34, Tryd.ntmps34
  go_wp2_with fail
  refine (HC.out _).mono ?_
  rintro e w' ⟨v, rfl, hr⟩
  have HR := Lib.hid hr
  clear hr
  go_wp2_with fail
  go_ret
  exact ⟨rfl, HR.out.kept⟩

set_option maxRecDepth 100000 in
theorem pnames_any (s : ByteArray) (hs : s.size ≤ 1000000) (w : World) :
    Calls Tryd.prog 35 #[.string s] w fun e w' => ∃ v, e = .returned v ∧ SplitRes w w' s v := by
  have hc := split_any s hs
  generalize (namesS s).isSome = b at hc
  have HC := Lib.hid hc
  clear hc
  go_enter Tryd.func35, Tryd.ntmps35
  go_wp2_with fail
  refine (HC.out _).mono ?_
  rintro e w' ⟨v, rfl, hr⟩
  have HR := Lib.hid hr
  clear hr
  go_wp2_with fail
  go_ret
  exact ⟨_, rfl, HR.out⟩

set_option maxRecDepth 100000 in
theorem pdepth_any (s : ByteArray) (hs : s.size ≤ 1000000) (w : World) :
    Calls Tryd.prog 46 #[.string s] w fun e w' => e = .returned (.int .i64 (depthS s)) ∧ Kept (fun _ => False) w w' := by
  have hc := split_any s hs
  have HC := Lib.hid hc
  obtain ⟨D, hD⟩ : ∃ D, D = depthS s := ⟨_, rfl⟩
  rw [← hD]
  have HD := Lib.hid hD
  clear hc hD
  cases hn : namesS s with
  | none =>
    rw [hn] at HC
    have hd : D = -1 := by rw [HD.out, depthS, hn]
    subst hd
    clear hn HD
    go_enter Tryd.func46, Tryd.ntmps46
    go_wp2_with fail
    refine (HC.out _).mono ?_
    rintro e w' ⟨v, rfl, hr⟩
    have HR := Lib.hid hr
    clear hr
    go_wp2_with fail
    go_ret
    exact ⟨rfl, HR.out.kept⟩
  | some l =>
    rw [hn] at HC
    have hd : D = (l.length : Int) := by rw [HD.out, depthS, hn]
    subst hd
    have HN := Lib.hid hn
    clear hn HD
    obtain ⟨n, hnl⟩ : ∃ n, n = l.length := ⟨_, rfl⟩
    rw [← hnl]
    have HL := Lib.hid hnl
    clear hnl
    go_enter Tryd.func46, Tryd.ntmps46
    go_wp2_with fail
    refine (HC.out _).mono ?_
    rintro e w' ⟨v, rfl, hr⟩
    have hrow := hr.row
    rw [HN.out] at hrow
    obtain ⟨a, c, rfl, _⟩ := hrow.form
    rw [show ((some l).getD []).length = n from HL.out.symm] at hr
    rw [show ((some l).getD []).length = n from HL.out.symm]
    have HR := Lib.hid hr
    clear hr hrow
    go_wp2_with fail
    go_ret
    exact ⟨rfl, HR.out.kept⟩

set_option maxRecDepth 100000 in
theorem qvalid_any (s : ByteArray) (hs : s.size ≤ 100000) (w : World) :
    Calls Tryd.prog 59 #[.string s] w fun e w' => e = .returned (.bool (namesS s).isSome) ∧ Kept (fun _ => False) w w' := by
  have hc := rsplit_any s hs
  obtain ⟨b, hb⟩ : ∃ b, b = (namesS s).isSome := ⟨_, rfl⟩
  rw [← hb] at hc ⊢
  have HC := Lib.hid hc
  clear hc hb
  go_enter Tryd.func59, Tryd.ntmps59
  go_wp2_with fail
  refine (HC.out _).mono ?_
  rintro e w' ⟨v, rfl, hr⟩
  have HR := Lib.hid hr
  clear hr
  go_wp2_with fail
  go_ret
  exact ⟨rfl, HR.out.kept⟩

set_option maxRecDepth 100000 in
theorem qnames_any (s : ByteArray) (hs : s.size ≤ 100000) (w : World) :
    Calls Tryd.prog 42 #[.string s] w fun e w' => ∃ v, e = .returned v ∧ NamesRes w w' s v := by
  have hc := rsplit_any s hs
  have HC := Lib.hid hc
  clear hc
  cases hn : namesS s with
  | none =>
    rw [hn] at HC
    have hr0 : ∀ W W' : World, Kept (fun _ => False) W W' → NamesRes W W' s (.slice none 0 0) := fun W W' hk => ⟨by rw [hn]; exact Or.inl ⟨rfl, rfl⟩, hk, fun k hk => by cases hk⟩
    have HR0 := Lib.hid hr0
    clear hn hr0
    go_enter Tryd.func42, Tryd.ntmps42
    go_wp2_with fail
    refine (HC.out _).mono ?_
    rintro e w' ⟨v, rfl, hr⟩
    have HR := Lib.hid hr
    clear hr
    go_wp2_with fail
    go_ret
    exact ⟨_, rfl, HR0.out _ _ HR.out.kept⟩
  | some l =>
    rw [hn] at HC
    have HN := Lib.hid hn
    clear hn
    go_enter Tryd.func42, Tryd.ntmps42
    go_wp2_with fail
    refine (HC.out _).mono ?_
    rintro e w' ⟨v, rfl, hr⟩
    have hsr : NamesRes w w' s v := by
      obtain ⟨xs, h1, _, h2⟩ := hr.row
      obtain rfl := h2 l HN.out
      exact ⟨by rw [HN.out]; exact h1, hr.kept, hr.own⟩
    have HR := Lib.hid hsr
    clear hr hsr
    go_wp2_with fail
    go_ret
    exact ⟨_, rfl, HR.out⟩

/-- Where the last stroke stands. -/
theorem last_stroke (s : ByteArray) (a x : List UInt8) (h : s.data.toList = a ++ 47 :: x) (hx : 47 ∉ x) : Lib.lastIndexByte s 47 = (a.length : Int) := by
  have hd : s.data = (a ++ 47 :: x).toArray := by rw [← h]
  have hsz : s.size = a.length + 1 + x.length := by show s.data.toList.length = _; rw [h]; simp; omega
  have hat : ∀ j, s.data[j]! = (a ++ 47 :: x)[j]! := fun j => by rw [hd, List.getElem!_toArray]
  have hE : ((s.data[a.length]!).toNat : Int) = 47 := by rw [hat]; simp
  have hbe : ∀ j, a.length < j → j < s.size → ((s.data[j]!).toNat : Int) ≠ 47 := by
    intro j h1 h2 e
    rw [hat] at e
    obtain ⟨d, rfl⟩ : ∃ d, j = a.length + 1 + d := ⟨j - a.length - 1, by omega⟩
    have hdl : d < x.length := by omega
    have e2 : (a ++ 47 :: x)[a.length + 1 + d]! = x[d] := by
      rw [getElem!_pos _ _ (by simp; omega), List.getElem_append_right (by omega)]
      have e3 : a.length + 1 + d - a.length = d + 1 := by omega
      simp only [e3, List.getElem_cons_succ]
    rw [e2] at e
    have : x[d] = 47 := UInt8.toNat_inj.1 (by have : (47 : UInt8).toNat = 47 := rfl; omega)
    exact hx (this ▸ List.getElem_mem hdl)
  unfold Lib.lastIndexByte
  rcases Lib.lastIdx_spec s 47 s.size with ⟨_, h2⟩ | ⟨i, h1, h2, h3, h4⟩
  · exact absurd hE (h2 a.length (by omega))
  · rw [h2]
    by_cases hlt : i < a.length
    · exact absurd hE (h4 a.length hlt (by omega))
    · by_cases hgt : a.length < i
      · exact absurd h3 (hbe i hgt h1)
      · have : i = a.length := by omega
        rw [this]

/-- The path above. -/
def parentS (s : ByteArray) : Option ByteArray := match namesS s with
  | some (x :: t) => some (pathS (x :: t).dropLast)
  | _ => none

/-- The bytes of a path with a last name. -/
theorem path_last (l : List ByteArray) (x : ByteArray) : (pathS (l ++ [x])).data.toList = l.flatMap (fun y => 47 :: y.data.toList) ++ 47 :: x.data.toList := by
  unfold pathS
  rw [mkS_list, pathL_cons (by simp)]
  simp [List.flatMap_map]
theorem path_data (l : List ByteArray) (h : l ≠ []) : (pathS l).data.toList = l.flatMap (fun y => 47 :: y.data.toList) := by
  unfold pathS
  rw [mkS_list, pathL_cons (by simpa using h)]
  simp [List.flatMap_map]
theorem parent_at {s : ByteArray} {l : List ByteArray} {x : ByteArray} (h : namesS s = some (l ++ [x])) : Lib.lastIndexByte s 47 = ((l.flatMap (fun y => 47 :: y.data.toList)).length : Int) ∧
    s.extract 0 (max (l.flatMap (fun y => 47 :: y.data.toList)).length 1) = pathS l ∧ (l.flatMap (fun y => 47 :: y.data.toList)).length + 1 ≤ s.size := by
  obtain ⟨h1, h2, h3⟩ := pathS_names h
  have hx : nameS x = true := List.all_eq_true.1 h2 x (by simp)
  have hd : s.data.toList = l.flatMap (fun y => 47 :: y.data.toList) ++ 47 :: x.data.toList := by rw [h1]; exact path_last l x
  refine ⟨last_stroke s _ _ hd (nameL_free hx), ?_, ?_⟩
  · apply str_ext
    rw [extract_list, List.drop_zero, hd]
    cases l with
    | nil => simp [pathS, pathL, mkS]
    | cons y t =>
      have hl : 1 ≤ ((y :: t).flatMap (fun y => 47 :: y.data.toList)).length := by simp
      rw [Nat.max_eq_left hl, List.take_left', path_data _ (by simp)]
      rfl
  · have : s.size = s.data.toList.length := rfl
    rw [this, hd]; simp

set_option maxRecDepth 100000 in
theorem parent_any (s : ByteArray) (hs : s.size ≤ 1000000) (w : World) :
    Calls Tryd.prog 23 #[.string s] w fun e w' => e = .returned (.tuple #[.string ((parentS s).getD ⟨#[]⟩), .bool (parentS s).isSome]) ∧ Kept (fun _ => False) w w' := by
  have hc := pdepth_any s hs
  by_cases hx : ∃ l x, namesS s = some (l ++ [x])
  · obtain ⟨l, x, hn⟩ := hx
    obtain ⟨h1, h2, h3⟩ := parent_at hn
    have hp : parentS s = some (pathS l) := by
      unfold parentS
      rw [hn]
      cases l with
      | nil => rfl
      | cons y t =>
        show some (pathS ((y :: t) ++ [x]).dropLast) = _
        rw [List.dropLast_concat]
    have hd : depthS s = ((l.length + 1 : Nat) : Int) := by rw [depthS, hn]; simp
    have hli := sh_LastI s (by omega)
    rw [h1] at hli
    rw [hd] at hc
    rw [hp]
    generalize (l.flatMap (fun y => 47 :: y.data.toList)).length = E at h2 h3 hli
    generalize hP : pathS l = P at h2
    obtain ⟨m, hm⟩ : ∃ m, m = l.length + 1 := ⟨_, rfl⟩
    rw [← hm] at hc
    have hm1 : ¬ (m : Int) < 1 := by omega
    have hE1 : (E : Int) < (s.size : Int) := by omega
    have HC := Lib.hid hc; have HLI := Lib.hid hli; have H2 := Lib.hid h2
    have he : (E = 0 ∧ (E : Int) < 1) ∨ (1 ≤ E ∧ ¬ (E : Int) < 1) := by omega
    show Calls _ _ _ _ fun e w' => e = .returned (.tuple #[.string P, .bool true]) ∧ _
    clear hc hli h2 hn h1 hp hd hP hm hs
    rcases he with ⟨e1, e2⟩ | ⟨e1, e2⟩
    · have h1s : (1 : Int) ≤ (s.size : Int) := by omega
      have hx1 : s.extract 0 1 = P := by rw [← H2.out, e1]; rfl
      have HX := Lib.hid hx1
      clear hx1 h3
      go_enter Tryd.func23, Tryd.ntmps23
      go_wp2_with fail
      refine (HC.out _).mono ?_
      rintro e w1 ⟨rfl, hk1⟩
      have HK1 := Lib.hid hk1
      clear hk1
      go_wp2_with fail
      refine (HLI.out _).mono ?_
      rintro e w2 ⟨rfl, rfl⟩
      go_wp2_with fail
      go_ret2
      exact ⟨by rw [← HX.out]; rfl, HK1.out⟩
    · have hmx : max (E : Int) 1 = (E : Int) := by omega
      have hE0 : (0 : Int) ≤ (E : Int) := by omega
      have hE2 : (E : Int) ≤ (s.size : Int) := by omega
      have hx1 : s.extract 0 E = P := by rw [← H2.out, Nat.max_eq_left e1]
      have HX := Lib.hid hx1
      clear hx1 h3 e1 e2
      go_enter Tryd.func23, Tryd.ntmps23
      go_wp2_with fail
      refine (HC.out _).mono ?_
      rintro e w1 ⟨rfl, hk1⟩
      have HK1 := Lib.hid hk1
      clear hk1
      go_wp2_with fail
      refine (HLI.out _).mono ?_
      rintro e w2 ⟨rfl, rfl⟩
      go_wp2_with fail
      go_ret2
      exact ⟨by rw [← HX.out]; rfl, HK1.out⟩
  · have hp : parentS s = none := by
      unfold parentS
      cases hn : namesS s with
      | none => rfl
      | some l =>
        cases l with
        | nil => rfl
        | cons y t => exact absurd ⟨(y :: t).dropLast, (y :: t).getLast (by simp), by rw [hn, List.dropLast_concat_getLast]⟩ hx
    have hd : depthS s < 1 := by
      unfold depthS
      cases hn : namesS s with
      | none => simp
      | some l =>
        cases l with
        | nil => simp
        | cons y t => exact absurd ⟨(y :: t).dropLast, (y :: t).getLast (by simp), by rw [hn, List.dropLast_concat_getLast]⟩ hx
    rw [hp]
    show Calls _ _ _ _ fun e w' => e = .returned (.tuple #[.string ⟨#[]⟩, .bool false]) ∧ _
    generalize depthS s = D at hc hd
    have HC := Lib.hid hc
    clear hc hx hp hs
    go_enter Tryd.func23, Tryd.ntmps23
    go_wp2_with fail
    refine (HC.out _).mono ?_
    rintro e w1 ⟨rfl, hk1⟩
    have HK1 := Lib.hid hk1
    clear hk1
    go_wp2_with fail
    go_ret2
    exact ⟨rfl, HK1.out⟩

/-- The reference's path of names. -/
theorem pathL_small (l : List ByteArray) (h : ∀ x ∈ l, x.size ≤ 1000) : (l.flatMap (fun y => 47 :: y.data.toList)).length ≤ 1001 * l.length := by
  induction l with
  | nil => simp
  | cons x t ih =>
    have h1 := h x (by simp)
    have h2 := ih fun y hy => h y (List.mem_cons_of_mem _ hy)
    have h3 : x.size = x.data.toList.length := rfl
    rw [List.flatMap_cons, List.length_append, List.length_cons, List.length_cons]
    omega

set_option maxRecDepth 100000 in
set_option maxHeartbeats 1600000 in
theorem qof_any (v : Value) (xs : List ByteArray) (w : World) (h : Strs w v xs) (hl : xs.length ≤ 100) (hx : ∀ x ∈ xs, x.size ≤ 1000) :
    Calls Tryd.prog 49 #[v] w fun e w' => e = .returned (.string (pathS xs)) ∧ w = w' := by
  obtain ⟨a, c, rfl, hnc, hcm⟩ := h.form
  by_cases h0 : xs = []
  · subst h0
    show Calls _ _ _ _ fun e w' => e = .returned (.string ⟨#[47]⟩) ∧ _
    clear h hl hx hnc hcm
    go_enter Tryd.func49, Tryd.ntmps49
    go_wp2_with fail
    go_ret
    exact ⟨rfl, rfl⟩
  · have HS := Lib.hid h
    obtain ⟨n, hn⟩ : ∃ n, n = xs.length := ⟨_, rfl⟩
    have hn0 : ¬ (n : Int) = 0 := by
      have : xs.length ≠ 0 := fun e => h0 (List.length_eq_zero_iff.1 e)
      omega
    have hn0b : ((n : Int) == 0) = false := beq_eq_false_iff_ne.2 hn0
    rw [← hn] at HS ⊢
    have HN := Lib.hid hn
    have hP := path_data xs h0
    have HP := Lib.hid hP; have HX := Lib.hid hx
    have hnl : n ≤ 100 := by omega
    generalize pathS xs = P at HP
    clear h hn hcm hnc hP hx hl h0
    go_enter Tryd.func49, Tryd.ntmps49
    go_wp2_with fail
    clear hn0 hn0b
    go_loop [3, 11] (fun ov iv => ∃ (k : Nat) (acc : ByteArray), k ≤ n ∧ iv = .int .i64 k ∧ ov = .string acc ∧ Hid (acc.data.toList = (xs.take k).flatMap fun y => 47 :: y.data.toList)) (fun _ iv => n - (intOf iv).toNat)
    case atStart => exact ⟨0, ⟨#[]⟩, by omega, rfl, rfl, Lib.hid rfl⟩
    case round =>
      obtain ⟨k, acc, hk, rfl, rfl, ha⟩ := hrel
      by_cases hlt : k < n
      · have l1 : (k : Int) < (n : Int) := by omega
        have l0 : (0 : Int) ≤ (k : Int) := by omega
        have hkl : k < xs.length := by have := HN.out; omega
        obtain ⟨g, off, rfl, _, hcell⟩ := HS.out.at (k := k) hkl
        obtain ⟨x, hx⟩ : ∃ x, x = xs.getD k ⟨#[]⟩ := ⟨_, rfl⟩
        rw [← hx] at hcell
        have hxm : x ∈ xs := by rw [hx]; simp [List.getD, hkl]
        have hxs := HX.out x hxm
        have has : acc.size ≤ 1001 * 100 := by
          have h1 : acc.size = acc.data.toList.length := rfl
          have h2 := pathL_small (xs.take k) (fun y hy => HX.out y (List.mem_of_mem_take hy))
          rw [h1, ha.out]
          rw [List.length_take] at h2
          omega
        have hs1 : ¬ 9223372036854775807 < 1 + x.size := by omega
        have hs2 : ¬ 9223372036854775807 < acc.size + (1 + x.size) := by omega
        have hnext : Hid ((acc ++ ((⟨#[47]⟩ : ByteArray) ++ x)).data.toList = (xs.take (k + 1)).flatMap fun y => 47 :: y.data.toList) := by
          show _ = _
          have e : xs.take (k + 1) = xs.take k ++ [x] := by
            rw [List.take_add_one, hx, List.getD_eq_getElem?_getD, List.getElem?_eq_getElem hkl]; rfl
          rw [cat_data, cat_data, ha.out, e]
          simp
        clear hx hxm hxs has ha hkl
        go_wp2_with fail
        go_round
        case rel => exact ⟨k + 1, _, by omega, by go_num, rfl, hnext⟩
        case measure => simp [intOf]; omega
      · obtain rfl : k = n := by omega
        have hend : acc = P := by
          apply str_ext
          rw [HP.out, ha.out, HN.out, List.take_length]
        subst hend
        clear ha
        go_wp2_with fail
        go_ret
        exact ⟨rfl, rfl⟩
end Go.Proofs.YtndedphkgkmckaaDoor
