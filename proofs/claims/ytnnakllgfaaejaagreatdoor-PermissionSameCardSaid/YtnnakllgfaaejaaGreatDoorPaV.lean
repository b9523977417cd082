/-
  Paths: Valid, Names, Depth of both, Parent, the reference's Of.
-/
import Derived.Test.YtnnakllgfaaejaaGreatDoorPaR
namespace Go.Proofs.YtnnakllgfaaejaaGreatDoor
open Go.RowKit
set_option linter.unusedSimpArgs false
set_option linter.unusedVariables false

/-- What the reference's Names answers. -/
structure NamesRes (w w' : World) (s : ByteArray) (v : Value) : Prop where
  row : Strs w' v ((namesS s).getD [])
  kept : Kept (fun _ => False) w w'
  own : ∀ k, v.ownBlock = some k → w.heap.size ≤ k

def depthS (s : ByteArray) : Int := match namesS s with
  | some l => l.length
  | none => -1

set_option maxRecDepth 100000 in
theorem pvalid_any (s : ByteArray) (hs : s.size ≤ 1000000) (w : World) :
    Calls Tryz.prog 66 #[.string s] w fun e w' => e = .returned (.bool (namesS s).isSome) ∧ Kept (fun _ => False) w w' := by
  have hc := split_any s hs
  obtain ⟨b, hb⟩ : ∃ b, b = (namesS s).isSome := ⟨_, rfl⟩
  rw [← hb] at hc ⊢
  have HC := Lib.hid hc
  clear hc hb
  go_enter Tryz.func66, Tryz.ntmps66
  go_wp2_with fail
  refine (HC.out _).mono ?_
  rintro e w' ⟨v, rfl, hr⟩
  have HR := Lib.hid hr
  clear hr
  go_wp2_with fail
  go_ret
  exact ⟨rfl, HR.out.kept⟩

set_option maxRecDepth 100000 in
theorem pdepth_any (s : ByteArray) (hs : s.size ≤ 1000000) (w : World) :
    Calls Tryz.prog 75 #[.string s] w fun e w' => e = .returned (.int .i64 (depthS s)) ∧ Kept (fun _ => False) w w' := by
  have hc := split_any s hs
  have HC := Lib.hid hc
  obtain ⟨D, hD⟩ : ∃ D, D = depthS s := ⟨_, rfl⟩
  rw [← hD]
  have HD := Lib.hid hD
  clear hc hD
  cases hn : namesS s with
  | none =>
    rw [hn] at HC
    have hd : D = -1 := by rw [HD.out, depthS, hn]
    subst hd
    clear hn HD
    go_enter Tryz.func75, Tryz.ntmps75
    go_wp2_with fail
    refine (HC.out _).mono ?_
    rintro e w' ⟨v, rfl, hr⟩
    have HR := Lib.hid hr
    clear hr
    go_wp2_with fail
    go_ret
    exact ⟨rfl, HR.out.kept⟩
  | some l =>
    rw [hn] at HC
    have hd : D = (l.length : Int) := by rw [HD.out, depthS, hn]
    subst hd
    have HN := Lib.hid hn
    clear hn HD
    obtain ⟨n, hnl⟩ : ∃ n, n = l.length := ⟨_, rfl⟩
    rw [← hnl]
    have HL := Lib.hid hnl
    clear hnl
    go_enter Tryz.func75, Tryz.ntmps75
    go_wp2_with fail
    refine (HC.out _).mono ?_
    rintro e w' ⟨v, rfl, hr⟩
    have hrow := hr.row
    rw [HN.out] at hrow
    obtain ⟨a, c, rfl, _⟩ := hrow.form
    rw [show ((some l).getD []).length = n from HL.out.symm] at hr
    rw [show ((some l).getD []).length = n from HL.out.symm]
    have HR := Lib.hid hr
    clear hr hrow
    go_wp2_with fail
    go_ret
    exact ⟨rfl, HR.out.kept⟩

/-- Where the last stroke stands. -/
theorem last_stroke (s : ByteArray) (a x : List UInt8) (h : s.data.toList = a ++ 47 :: x) (hx : 47 ∉ x) : Lib.lastIndexByte s 47 = (a.length : Int) := by
  have hd : s.data = (a ++ 47 :: x).toArray := by rw [← h]
  have hsz : s.size = a.length + 1 + x.length := by show s.data.toList.length = _; rw [h]; simp; omega
  have hat : ∀ j, s.data[j]! = (a ++ 47 :: x)[j]! := fun j => by rw [hd, List.getElem!_toArray]
  have hE : ((s.data[a.length]!).toNat : Int) = 47 := by rw [hat]; simp
  have hbe : ∀ j, a.length < j → j < s.size → ((s.data[j]!).toNat : Int) ≠ 47 := by
    intro j h1 h2 e
    rw [hat] at e
    obtain ⟨d, rfl⟩ : ∃ d, j = a.length + 1 + d := ⟨j - a.length - 1, by omega⟩
    have hdl : d < x.length := by omega
    have e2 : (a ++ 47 :: x)[a.length + 1 + d]! = x[d] := by
      rw [getElem!_pos _ _ (by simp; omega), List.getElem_append_right (by omega)]
      have e3 : a.length + 1 + d - a.length = d + 1 := by omega
      simp only [e3, List.getElem_cons_succ]
    rw [e2] at e
    have : x[d] = 47 := UInt8.toNat_inj.1 (by have : (47 : UInt8).toNat = 47 := rfl; omega)
    exact hx (this ▸ List.getElem_mem hdl)
  unfold Lib.lastIndexByte
  rcases Lib.lastIdx_spec s 47 s.size with ⟨_, h2⟩ | ⟨i, h1, h2, h3, h4⟩
  · exact absurd hE (h2 a.length (by omega))
  · rw [h2]
    by_cases hlt : i < a.length
    · exact absurd hE (h4 a.length hlt (by omega))
    · by_cases hgt : a.length < i
      · exact absurd h3 (hbe i hgt h1)
      · have : i = a.length := by omega
        rw [this]

/-- The path above. -/
def parentS (s : ByteArray) : Option ByteArray := match namesS s with
  | some (x :: t) => some (pathS (x :: t).dropLast)
  | _ => none

/-- The bytes of a path with a last name. -/
theorem path_last (l : List ByteArray) (x : ByteArray) : (pathS (l ++ [x])).data.toList = l.flatMap (fun y => 47 :: y.data.toList) ++ 47 :: x.data.toList := by
  unfold pathS
  rw [mkS_list, pathL_cons (by simp)]
  simp [List.flatMap_map]
theorem path_data (l : List ByteArray) (h : l ≠ []) : (pathS l).data.toList = l.flatMap (fun y => 47 :: y.data.toList) := by
  unfold pathS
  rw [mkS_list, pathL_cons (by simpa using h)]
  simp [List.flatMap_map]
theorem parent_at {s : ByteArray} {l : List ByteArray} {x : ByteArray} (h : namesS s = some (l ++ [x])) : Lib.lastIndexByte s 47 = ((l.flatMap (fun y => 47 :: y.data.toList)).length : Int) ∧
    s.extract 0 (max (l.flatMap (fun y => 47 :: y.data.toList)).length 1) = pathS l ∧ (l.flatMap (fun y => 47 :: y.data.toList)).length + 1 ≤ s.size := by
  obtain ⟨h1, h2, h3⟩ := pathS_names h
  have hx : nameS x = true := List.all_eq_true.1 h2 x (by simp)
  have hd : s.data.toList = l.flatMap (fun y => 47 :: y.data.toList) ++ 47 :: x.data.toList := by rw [h1]; exact path_last l x
  refine ⟨last_stroke s _ _ hd (nameL_free hx), ?_, ?_⟩
  · apply str_ext
    rw [extract_list, List.drop_zero, hd]
    cases l with
    | nil => simp [pathS, pathL, mkS]
    | cons y t =>
      have hl : 1 ≤ ((y :: t).flatMap (fun y => 47 :: y.data.toList)).length := by simp
      rw [Nat.max_eq_left hl, List.take_left', path_data _ (by simp)]
      rfl
  · have : s.size = s.data.toList.length := rfl
    rw [this, hd]; simp

set_option maxRecDepth 100000 in
theorem parent_any (s : ByteArray) (hs : s.size ≤ 1000000) (w : World) :
    Calls Tryz.prog 53 #[.string s] w fun e w' => e = .returned (.tuple #[.string ((parentS s).getD ⟨#[]⟩), .bool (parentS s).isSome]) ∧ Kept (fun _ => False) w w' := by
  have hc := pdepth_any s hs
  by_cases hx : ∃ l x, namesS s = some (l ++ [x])
  · obtain ⟨l, x, hn⟩ := hx
    obtain ⟨h1, h2, h3⟩ := parent_at hn
    have hp : parentS s = some (pathS l) := by
      unfold parentS
      rw [hn]
      cases l with
      | nil => rfl
      | cons y t =>
        show some (pathS ((y :: t) ++ [x]).dropLast) = _
        rw [List.dropLast_concat]
    have hd : depthS s = ((l.length + 1 : Nat) : Int) := by rw [depthS, hn]; simp
    have hli := sh_LastI s (by omega)
    rw [h1] at hli
    rw [hd] at hc
    rw [hp]
    generalize (l.flatMap (fun y => 47 :: y.data.toList)).length = E at h2 h3 hli
    generalize hP : pathS l = P at h2
    obtain ⟨m, hm⟩ : ∃ m, m = l.length + 1 := ⟨_, rfl⟩
    rw [← hm] at hc
    have hm1 : ¬ (m : Int) < 1 := by omega
    have hE1 : (E : Int) < (s.size : Int) := by omega
    have HC := Lib.hid hc; have HLI := Lib.hid hli; have H2 := Lib.hid h2
    have he : (E = 0 ∧ (E : Int) < 1) ∨ (1 ≤ E ∧ ¬ (E : Int) < 1) := by omega
    show Calls _ _ _ _ fun e w' => e = .returned (.tuple #[.string P, .bool true]) ∧ _
    clear hc hli h2 hn h1 hp hd hP hm hs
    rcases he with ⟨e1, e2⟩ | ⟨e1, e2⟩
    · have h1s : (1 : Int) ≤ (s.size : Int) := by omega
      have hx1 : s.extract 0 1 = P := by rw [← H2.out, e1]; rfl
      have HX := Lib.hid hx1
      clear hx1 h3
      go_enter Tryz.func53, Tryz.ntmps53
      go_wp2_with fail
      refine (HC.out _).mono ?_
      rintro e w1 ⟨rfl, hk1⟩
      have HK1 := Lib.hid hk1
      clear hk1
      go_wp2_with fail
      refine (HLI.out _).mono ?_
      rintro e w2 ⟨rfl, rfl⟩
      go_wp2_with fail
      go_ret2
      exact ⟨by rw [← HX.out]; rfl, HK1.out⟩
    · have hmx : max (E : Int) 1 = (E : Int) := by omega
      have hE0 : (0 : Int) ≤ (E : Int) := by omega
      have hE2 : (E : Int) ≤ (s.size : Int) := by omega
      have hx1 : s.extract 0 E = P := by rw [← H2.out, Nat.max_eq_left e1]
      have HX := Lib.hid hx1
      clear hx1 h3 e1 e2
      go_enter Tryz.func53, Tryz.ntmps53
      go_wp2_with fail
      refine (HC.out _).mono ?_
      rintro e w1 ⟨rfl, hk1⟩
      have HK1 := Lib.hid hk1
      clear hk1
      go_wp2_with fail
      refine (HLI.out _).mono ?_
      rintro e w2 ⟨rfl, rfl⟩
      go_wp2_with fail
      go_ret2
      exact ⟨by rw [← HX.out]; rfl, HK1.out⟩
  · have hp : parentS s = none := by
      unfold parentS
      cases hn : namesS s with
      | none => rfl
      | some l =>
        cases l with
        | nil => rfl
        | cons y t => exact absurd ⟨(y :: t).dropLast, (y :: t).getLast (by simp), by rw [hn, List.dropLast_concat_getLast]⟩ hx
    have hd : depthS s < 1 := by
      unfold depthS
      cases hn : namesS s with
      | none => simp
      | some l =>
        cases l with
        | nil => simp
        | cons y t => exact absurd ⟨(y :: t).dropLast, (y :: t).getLast (by simp), by rw [hn, List.dropLast_concat_getLast]⟩ hx
    rw [hp]
    show Calls _ _ _ _ fun e w' => e = .returned (.tuple #[.string ⟨#[]⟩, .bool false]) ∧ _
    generalize depthS s = D at hc hd
    have HC := Lib.hid hc
    clear hc hx hp hs
    go_enter Tryz.func53, Tryz.ntmps53
    go_wp2_with fail
    refine (HC.out _).mono ?_
    rintro e w1 ⟨rfl, hk1⟩
    have HK1 := Lib.hid hk1
    clear hk1
    go_wp2_with fail
    go_ret2
    exact ⟨rfl, HK1.out⟩

/-- The reference's path of names. -/
theorem pathL_small (l : List ByteArray) (h : ∀ x ∈ l, x.size ≤ 1000) : (l.flatMap (fun y => 47 :: y.data.toList)).length ≤ 1001 * l.length := by
  induction l with
  | nil => simp
  | cons x t ih =>
    have h1 := h x (by simp)
    have h2 := ih fun y hy => h y (List.mem_cons_of_mem _ hy)
    have h3 : x.size = x.data.toList.length := rfl
    rw [List.flatMap_cons, List.length_append, List.length_cons, List.length_cons]
    omega

end Go.Proofs.YtnnakllgfaaejaaGreatDoor
