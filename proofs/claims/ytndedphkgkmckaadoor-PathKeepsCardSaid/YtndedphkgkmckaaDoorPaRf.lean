/-
  The reference's Has and Below of lists of paths.
-/
import Derived.Test.YtndedphkgkmckaaDoorPaX
import Derived.Test.YtndedphkgkmckaaDoorStO
import Derived.Deep.AppendLies
namespace Go.Proofs.YtndedphkgkmckaaDoor
open Go.RowKit
set_option linter.unusedSimpArgs false
set_option linter.unusedVariables false

theorem Strs.cut {w : World} {a : Option Addr} {n c : Nat} {xs : List ByteArray} (h : Strs w (.slice a n c) xs) {i : Nat} (hi : i ≤ xs.length) : Strs w (.slice a i c) (xs.take i) := by
  rcases h with ⟨e, rfl⟩ | ⟨g, off, cap, e, h1, h2, h3, h4⟩
  · cases e
    obtain rfl : i = 0 := by simpa using hi
    exact Or.inl ⟨rfl, rfl⟩
  · cases e
    have hl : (xs.take i).length = i := by rw [List.length_take]; omega
    refine Or.inr ⟨g, off, _, by rw [hl], by rw [hl]; omega, h2, h3, fun j hj => ?_⟩
    rw [hl] at hj
    rw [h4 j (by omega), List.getD_eq_getElem?_getD, List.getD_eq_getElem?_getD, List.getElem?_take_of_lt hj]

set_option maxRecDepth 100000 in
set_option maxHeartbeats 800000 in
theorem rhas_any (v : Value) (xs : List ByteArray) (s : ByteArray) (w : World) (h : Strs w v xs) :
    Calls Tryd.prog 15 #[v, .string s] w fun e w' => e = .returned (.bool (memS s xs)) ∧ w = w' := by
  obtain ⟨b, hb⟩ : ∃ b, b = memS s xs := ⟨_, rfl⟩
  rw [← hb]
  obtain ⟨a, c, rfl, hnc, hcm⟩ := h.form
  unfold maxLen at hcm
  have HS := Lib.hid h
  obtain ⟨n, hn⟩ : ∃ n, n = xs.length := ⟨_, rfl⟩
  have hnb : n ≤ 9223372036854775807 := by omega
  rw [← hn] at HS ⊢
  have HN := Lib.hid hn
  have HB := Lib.hid hb
  clear h hn hcm hnc hb
  go_enter Tryd.func15, Tryd.ntmps15
  go_wp2_with fail
  go_loop [9] (fun iv => ∃ k : Nat, k ≤ n ∧ iv = .int .i64 k ∧ Hid (∀ j, j < k → xs.getD j ⟨#[]⟩ ≠ s)) (fun iv => n - (intOf iv).toNat)
  case atStart => exact ⟨0, by omega, rfl, fun j hj => by omega⟩
  case round =>
    obtain ⟨k, hk, rfl, hno⟩ := hrel
    by_cases hlt : k < n
    · have l1 : (k : Int) < (n : Int) := by omega
      have l0 : (0 : Int) ≤ (k : Int) := by omega
      obtain ⟨g, off, rfl, _, hcell⟩ := HS.out.at (k := k) (by have := HN.out; omega)
      obtain ⟨x, hx⟩ : ∃ x, x = xs.getD k ⟨#[]⟩ := ⟨_, rfl⟩
      rw [← hx] at hcell
      have HX := Lib.hid hx
      clear hx
      by_cases he : s = x
      · have hbe : (s.toList == x.toList) = true := by rw [str_eq]; simp [he]
        have hbt : b = true := by
          rw [HB.out, memS_iff]
          have h := HX.out
          have hk2 : k < xs.length := by have := HN.out; omega
          rw [he, h]
          simp [List.getD, hk2]
        clear HB
        subst hbt
        clear he
        go_wp2_with fail
        go_ret
        exact ⟨rfl, rfl⟩
      · have hbe : (s.toList == x.toList) = false := by rw [str_eq]; simp [he]
        have hno2 : Hid (∀ j, j < k + 1 → xs.getD j ⟨#[]⟩ ≠ s) := fun j hj => by
          by_cases e : j < k
          · exact hno.out j e
          · obtain rfl : j = k := by omega
            rw [← HX.out]; exact fun h => he h.symm
        clear he
        go_wp2_with fail
        go_round
        case rel => exact ⟨k + 1, by omega, by go_num, hno2⟩
        case measure => simp [intOf]; omega
    · obtain rfl : k = n := by omega
      have hbt : b = false := by
        rw [HB.out, Bool.eq_false_iff]
        intro h
        obtain ⟨i, hi, e⟩ := List.getElem_of_mem ((memS_iff _ _).1 h)
        refine hno.out i (by have := HN.out; omega) ?_
        simp [List.getD, hi, e]
      clear HB
      subst hbt
      go_wp2_with fail
      go_ret
      exact ⟨rfl, rfl⟩

/-- The paths of a list that lie within p, if it has p. -/
def belowS (l : List ByteArray) (p : ByteArray) : List ByteArray := if memS p l = true then l.filter fun q => withinS q p else []

set_option maxRecDepth 100000 in
set_option maxHeartbeats 1600000 in
theorem rbelow_no (v : Value) (xs : List ByteArray) (p : ByteArray) (w : World) (h : Strs w v xs) (hm : memS p xs = false) :
    Calls Tryd.prog 18 #[v, .string p] w fun e w' => e = .returned (.slice none 0 0) ∧ w = w' := by
  obtain ⟨a, c, rfl, hnc, hcm⟩ := h.form
  unfold maxLen at hcm
  have HH := rhas_any _ xs p w h
  rw [hm] at HH
  have HH := Lib.hid HH
  have HS := Lib.hid h
  obtain ⟨n, hn⟩ : ∃ n, n = xs.length := ⟨_, rfl⟩
  have hnb : n ≤ 9223372036854775807 := by omega
  rw [← hn] at HS HH ⊢
  have HN := Lib.hid hn
  clear h hn hcm hnc hm
  go_enter Tryd.func18, Tryd.ntmps18
  go_wp2_with fail
  go_loop [5, 10] (fun ov iv => ∃ k : Nat, k ≤ n ∧ iv = .int .i64 k ∧ ov = .slice none 0 0) (fun _ iv => n - (intOf iv).toNat)
  case atStart => exact ⟨0, by omega, rfl, rfl⟩
  case round =>
    obtain ⟨k, hk, rfl, rfl⟩ := hrel
    by_cases hlt : k < n
    · have l1 : (k : Int) < (n : Int) := by omega
      have l0 : (0 : Int) ≤ (k : Int) := by omega
      obtain ⟨g, off, rfl, _, hcell⟩ := HS.out.at (k := k) (by have := HN.out; omega)
      generalize xs.getD k ⟨#[]⟩ = x at hcell
      go_wp2_with fail
      refine HH.out.mono ?_
      rintro e w1 ⟨rfl, rfl⟩
      go_wp2_with fail
      go_round
      case rel => first | exact ⟨k + 1, by omega, by go_num, rfl⟩ | ((repeat apply Exists.intro); exact ⟨⟨k + 1, by omega, by go_num, rfl⟩, rfl⟩)
      case measure => simp [intOf]; omega
    · obtain rfl : k = n := by omega
      go_wp2_with fail
      go_ret
      exact ⟨rfl, rfl⟩

theorem filter_take_yes {xs : List ByteArray} {f : ByteArray → Bool} {k : Nat} (hk : k < xs.length) (h : f (xs.getD k ⟨#[]⟩) = true) : (xs.take (k + 1)).filter f = (xs.take k).filter f ++ [xs.getD k ⟨#[]⟩] := by
  have e : xs.getD k ⟨#[]⟩ = xs[k] := by simp [List.getD, hk]
  rw [List.take_succ_eq_append_getElem hk, List.filter_append, e]
  rw [e] at h
  simp [h]
theorem filter_take_no {xs : List ByteArray} {f : ByteArray → Bool} {k : Nat} (hk : k < xs.length) (h : f (xs.getD k ⟨#[]⟩) = false) : (xs.take (k + 1)).filter f = (xs.take k).filter f := by
  have e : xs.getD k ⟨#[]⟩ = xs[k] := by simp [List.getD, hk]
  rw [List.take_succ_eq_append_getElem hk, List.filter_append]
  rw [e] at h
  simp [h]

set_option maxRecDepth 100000 in
set_option maxHeartbeats 3200000 in
theorem rbelow_yes (v : Value) (xs : List ByteArray) (p : ByteArray) (w : World) (h : Strs w v xs) (hm : memS p xs = true) (hl : xs.length ≤ 100000) (hz : ∀ x ∈ xs, x.size ≤ 100000) :
    Calls Tryd.prog 18 #[v, .string p] w fun e w' => ∃ v', e = .returned v' ∧ OwnS w' w.heap.size v' (xs.filter fun q => withinS q p) ∧ Kept (fun _ => False) w w' := by
  obtain ⟨a, c, rfl, hnc, hcm⟩ := h.form
  have hpz := hz p ((memS_iff _ _).1 hm)
  have HH := Lib.hid (fun W (hk : Kept (fun _ => False) w W) => rhas_any _ xs p W (h.kept hk (fun _ _ h => h)))
  rw [hm] at HH
  have HS := Lib.hid h
  obtain ⟨n, hn⟩ : ∃ n, n = xs.length := ⟨_, rfl⟩
  have hnb : n ≤ 100000 := by omega
  rw [← hn] at HS HH ⊢
  have HN := Lib.hid hn
  have HZ := Lib.hid hz
  clear h hn hcm hnc hm hz hl
  go_enter Tryd.func18, Tryd.ntmps18
  go_wp2_with fail
  go_loopw [5, 10] (fun ov iv wr => ∃ (k m : Nat) (aa : Option Addr) (cc : Nat), k ≤ n ∧ m ≤ k ∧ iv = .int .i64 k ∧ ov = .slice aa m cc ∧ Hid (((xs.take k).filter fun q => withinS q p).length = m) ∧ Hid (OwnS wr w.heap.size (.slice aa m cc) ((xs.take k).filter fun q => withinS q p)) ∧ Hid (Kept (fun _ => False) w wr)) (fun _ iv _ => n - (intOf iv).toNat)
  case atStart => exact ⟨0, 0, none, 0, by omega, by omega, rfl, rfl, rfl, OwnS.nil _ _, Kept.refl _ _⟩
  case round =>
    obtain ⟨k, m, aa, cc, hk, hmk, rfl, rfl, hml, ho, hkw⟩ := hrel
    by_cases hlt : k < n
    · have l1 : (k : Int) < (n : Int) := by omega
      have l0 : (0 : Int) ≤ (k : Int) := by omega
      obtain ⟨g, off, rfl, _, hcell⟩ := (HS.out.kept hkw.out (fun _ _ h => h)).at (k := k) (by have := HN.out; omega)
      have hxz := HZ.out (xs.getD k ⟨#[]⟩) (by rw [List.getD_eq_getElem?_getD, List.getElem?_eq_getElem (by have := HN.out; omega)]; exact List.getElem_mem _)
      have hW := qwithin_any (xs.getD k ⟨#[]⟩) p hxz hpz wr
      have HH1 := Lib.hid (HH.out wr hkw.out)
      cases hwi : withinS (xs.getD k ⟨#[]⟩) p with
      | false =>
        rw [hwi] at hW
        have HNX := Lib.hid (filter_take_no (f := fun q => withinS q p) (by have := HN.out; omega) hwi)
        have HW := Lib.hid hW
        clear hW hwi
        generalize xs.getD k ⟨#[]⟩ = x at hcell HW hxz
        clear hxz
        go_wp2_with fail
        refine HH1.out.mono ?_
        rintro e w1 ⟨rfl, rfl⟩
        go_wp2_with fail
        refine HW.out.mono ?_
        rintro e w2 ⟨rfl, k2⟩
        have HO2 : Hid (OwnS w2 w.heap.size (.slice aa m cc) ((xs.take (k + 1)).filter fun q => withinS q p)) := by rw [HNX.out]; exact ho.out.kept k2 (fun _ _ h => h)
        have HL2 : Hid (((xs.take (k + 1)).filter fun q => withinS q p).length = m) := by rw [HNX.out]; exact hml.out
        have HK2 := Lib.hid (hkw.out.then k2)
        clear k2
        go_wp2_with fail
        go_roundw
        case rel => first | exact ⟨k + 1, m, aa, cc, by omega, by omega, by go_num, rfl, HL2, HO2, HK2⟩ | ((repeat apply Exists.intro); exact ⟨⟨k + 1, m, aa, cc, by omega, by omega, by go_num, rfl, HL2, HO2, HK2⟩, rfl⟩)
        case measure => simp [intOf]; omega
      | true =>
        rw [hwi] at hW
        have HNX := Lib.hid (filter_take_yes (f := fun q => withinS q p) (by have := HN.out; omega) hwi)
        have HW := Lib.hid hW
        clear hW hwi
        generalize xs.getD k ⟨#[]⟩ = x at hcell HW hxz HNX
        clear hxz
        generalize hacc : (xs.take k).filter (fun q => withinS q p) = acc at ho hml HNX
        clear hacc
        go_wp2_with fail
        refine HH1.out.mono ?_
        rintro e w1 ⟨rfl, rfl⟩
        go_wp2_with fail
        refine HW.out.mono ?_
        rintro e w2 ⟨rfl, k2⟩
        have HO2 := Lib.hid (ho.out.kept k2 (fun _ _ h => h))
        have HK2 := Lib.hid (hkw.out.then k2)
        clear k2
        go_wp2_with (at_builtin; refine wpList_pushS (by rfl) _ _ rfl rfl w.heap.size _ acc w2.heap.size x rfl rfl (HO2.out.alloc _) (by go_simp) (by have := hml.out; omega) (by have := HK2.out.size; simp; omega) ?_)
        intro a' c' w4 hown hk4
        have hll := hml.out
        have HO4 : Hid (OwnS w4 w.heap.size (.slice a' (m + 1) c') ((xs.take (k + 1)).filter fun q => withinS q p)) := by
          have h2 := hown
          rw [hll, ← HNX.out] at h2
          exact h2
        have HL4 : Hid (((xs.take (k + 1)).filter fun q => withinS q p).length = m + 1) := by rw [HNX.out, List.length_append, hll]; rfl
        have HK4 : Hid (Kept (fun _ => False) w w4) := (HK2.out.then (Kept.alloc _ _ _)).trans hk4 (fun _ _ h => h) (fun i hi e => by have := (HO2.out.bound i e).1; omega)
        clear hown hk4
        go_wp2_with fail
        go_roundw
        case rel => first | exact ⟨k + 1, m + 1, a', c', by omega, by omega, by go_num, by rw [hll], HL4, HO4, HK4⟩ | ((repeat apply Exists.intro); exact ⟨⟨k + 1, m + 1, a', c', by omega, by omega, by go_num, by rw [hll], HL4, HO4, HK4⟩, rfl⟩)
        case measure => simp [intOf]; omega
    · obtain rfl : k = n := by omega
      have HFIN : Hid (OwnS wr w.heap.size (.slice aa m cc) (xs.filter fun q => withinS q p)) := by
        have h2 := ho.out
        rw [HN.out, List.take_length] at h2
        exact h2
      go_wp2_with fail
      go_ret
      exact ⟨_, rfl, HFIN.out, hkw.out⟩

theorem rbelow_any (v : Value) (xs : List ByteArray) (p : ByteArray) (w : World) (h : Strs w v xs) (hl : xs.length ≤ 100000) (hz : ∀ x ∈ xs, x.size ≤ 100000) :
    Calls Tryd.prog 18 #[v, .string p] w fun e w' => ∃ v', e = .returned v' ∧ OwnS w' w.heap.size v' (belowS xs p) ∧ Kept (fun _ => False) w w' := by
  unfold belowS
  cases hm : memS p xs with
  | false =>
    refine (rbelow_no v xs p w h hm).mono ?_
    rintro e w' ⟨rfl, rfl⟩
    exact ⟨_, rfl, OwnS.nil _ _, Kept.refl _ _⟩
  | true => exact rbelow_yes v xs p w h hm hl hz
end Go.Proofs.YtndedphkgkmckaaDoor
