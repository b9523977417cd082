/-
  The names of a path: path.split and arbacref07.split.
-/
import Derived.Test.YtnnakllgfaaejaaGreatDoorPaN
import Derived.Test.YtnnakllgfaaejaaGreatDoorPaL
import Derived.Test.YtnnakllgfaaejaaGreatDoorStO
namespace Go.Proofs.YtnnakllgfaaejaaGreatDoor
open Go.RowKit
set_option linter.unusedSimpArgs false
set_option linter.unusedVariables false

theorem size_mk (l : List UInt8) : (mkS l).size = l.length := by simp [mkS, ByteArray.size]
theorem parts_room (r : List UInt8) : (cutL r).length ≤ 8 ∧ partsN (mkS r) = (cutL r).map mkS ∨ 8 < (cutL r).length ∧ 8 < (partsN (mkS r)).length ∧ (partsN (mkS r)).length ≤ roomN (mkS r) := by
  have hlen := cutL_len r
  have hroom : roomN (mkS r) = min 9 (r.length + 1) := by unfold roomN; rw [size_mk]
  obtain ⟨h1, h2⟩ := split_stroke (roomN (mkS r) - 1) (mkS r)
  rw [mkS_list] at h1 h2
  by_cases h8 : (cutL r).length ≤ 8
  · refine Or.inl ⟨h8, ?_⟩
    have := h1 (by rw [hroom]; omega)
    show Lib.splitB _ _ _ _ = _
    rw [← this, map_data]
  · refine Or.inr ⟨by omega, ?_⟩
    by_cases h9 : (cutL r).length ≤ 9
    · have := congrArg List.length (h1 (by rw [hroom]; omega))
      rw [List.length_map] at this
      unfold partsN
      rw [this, hroom]
      omega
    · have := h2 (by rw [hroom]; omega)
      unfold partsN
      rw [this, hroom]
      omega
theorem parts_fit (r : List UInt8) : (partsN (mkS r)).length ≤ roomN (mkS r) := by
  rcases parts_room r with ⟨h1, h2⟩ | ⟨_, _, h⟩
  · rw [h2, List.length_map]
    have := cutL_len r
    unfold roomN
    rw [size_mk]
    omega
  · exact h

theorem namesS_root : namesS ⟨#[47]⟩ = some [] := by rw [namesS]; rfl
theorem namesS_no {s : ByteArray} (h : ∀ r, s.data.toList ≠ 47 :: r) : namesS s = none := by
  unfold namesS namesL
  rw [if_neg (h [])]
  cases hl : s.data.toList with
  | nil => rfl
  | cons b r =>
    have hb : ¬ b = 47 := fun e => h r (by rw [hl, e])
    simp [hb]
theorem namesS_at {s : ByteArray} {r : List UInt8} (h : s.data.toList = 47 :: r) (hr : r ≠ []) : namesS s = if (cutL r).length ≤ 8 ∧ ((cutL r).map mkS).all nameS = true then some ((cutL r).map mkS) else none := by
  have hn : ¬ (47 :: r : List UInt8) = [47] := fun e => hr (List.cons.inj e).2
  have ha : ((cutL r).map mkS).all nameS = (cutL r).all nameL := by rw [← all_names, map_mkS]
  unfold namesS namesL
  rw [h, if_neg hn, ha]
  show Option.map _ (if (47 : UInt8) = 47 ∧ (cutL r).length ≤ 8 ∧ (cutL r).all nameL = true then some (cutL r) else none) = _
  by_cases hc : (cutL r).length ≤ 8 ∧ (cutL r).all nameL = true
  · rw [if_pos hc, if_pos ⟨rfl, hc⟩]; rfl
  · rw [if_neg hc, if_neg fun e => hc e.2]; rfl

/-- What a string of a path begins with. -/
theorem str_cases (s : ByteArray) : s = ⟨#[47]⟩ ∨ (∀ r, s.data.toList ≠ 47 :: r) ∨ ∃ r, s.data.toList = 47 :: r ∧ r ≠ [] := by
  by_cases h : ∃ r, s.data.toList = 47 :: r
  · obtain ⟨r, h⟩ := h
    by_cases hr : r = []
    · subst hr; exact Or.inl (data_inj h)
    · exact Or.inr (Or.inr ⟨r, h, hr⟩)
  · exact Or.inr (Or.inl fun r e => h ⟨r, e⟩)

/-- What split answers: the names, if there are any, in a row of its own. -/
structure SplitRes (w w' : World) (s : ByteArray) (v : Value) : Prop where
  row : Strs w' v ((namesS s).getD [])
  kept : Kept (fun _ => False) w w'
  own : ∀ k, v.ownBlock = some k → w.heap.size ≤ k
  gr : ∃ os, w' = Go.Sort.grow w os

set_option maxRecDepth 100000 in
set_option maxHeartbeats 1600000 in
theorem split_any (s : ByteArray) (hs : s.size ≤ 1000000) (w : World) :
    Calls Tryz.prog 72 #[.string s] w fun e w' => ∃ v, e = .returned (.tuple #[v, .bool (namesS s).isSome]) ∧ SplitRes w w' s v := by
  rcases str_cases s with rfl | h | ⟨r, h, hr⟩
  · have hn : ∀ W, SplitRes W W ⟨#[47]⟩ (.slice none 0 0) := fun W => ⟨by rw [namesS_root]; exact Or.inl ⟨rfl, rfl⟩, Kept.refl _ _, fun k hk => (by cases hk), #[], (Go.Sort.grow_empty _).symm⟩
    have HN := Lib.hid hn
    rw [show (namesS ⟨#[47]⟩).isSome = true by rw [namesS_root]; rfl]
    clear hn hs
    go_enter Tryz.func72, Tryz.ntmps72
    go_wp2_with fail
    go_ret2
    exact ⟨_, rfl, HN.out _⟩
  · have hnn := namesS_no h
    have hn : ∀ W, SplitRes W W s (.slice none 0 0) := fun W => ⟨by rw [hnn]; exact Or.inl ⟨rfl, rfl⟩, Kept.refl _ _, fun k hk => (by cases hk), #[], (Go.Sort.grow_empty _).symm⟩
    have HN := Lib.hid hn
    have hc := sh_CutP_no s h
    have HC := Lib.hid hc
    have e1 : ¬ s.toList = [47] := fun e => h [] (by rw [← ByteArray.toList_eq]; exact e)
    have e1b : (s.toList == [47]) = false := by simp [e1]
    rw [hnn]
    clear hn h hc hnn hs
    go_enter Tryz.func72, Tryz.ntmps72
    go_wp2_with fail
    refine (HC.out _).mono ?_
    rintro e w' ⟨rfl, rfl⟩
    go_wp2_with fail
    go_ret2
    exact ⟨_, rfl, HN.out _⟩
  · have hc := sh_CutP_yes s r h
    have hsz : (mkS r).size ≤ 1000000 := by
      have : s.size = r.length + 1 := by show s.data.toList.length = _; rw [h]; rfl
      rw [size_mk]; omega
    have hsp := splitN_any (mkS r) hsz (parts_fit r)
    have HC := Lib.hid hc; have HSP := Lib.hid hsp
    have e1 : ¬ s.toList = [47] := fun e => hr (by rw [ByteArray.toList_eq, h] at e; exact (List.cons.inj e).2)
    have e1b : (s.toList == [47]) = false := by simp [e1]
    have hna := namesS_at h hr
    rcases parts_room r with ⟨h8, hp⟩ | ⟨h8, hp, _⟩
    · rw [hp] at HSP
      cases hal : ((cutL r).map mkS).all nameS with
      | true =>
        rw [if_pos ⟨h8, hal⟩] at hna
        obtain ⟨xs, hxs⟩ : ∃ xs, xs = (cutL r).map mkS := ⟨_, rfl⟩
        rw [← hxs] at HSP hna hal
        have hxl : ¬ (8 : Int) < (xs.length : Int) := by rw [hxs, List.length_map]; omega
        rw [hna]
        have HNA := Lib.hid hna
        have han := fun (v : Value) (W : World) (hv : Strs W v xs) => allNames_any v xs W hv
        rw [hal] at han
        have HAN := Lib.hid han
        clear h hc hsp hsz hna hp h8 hxs hal hr han
        generalize roomN (mkS r) = rn at HSP
        obtain ⟨n, hn⟩ : ∃ n, n = xs.length := ⟨_, rfl⟩
        rw [← hn] at HSP hxl
        clear hn hs
        go_enter Tryz.func72, Tryz.ntmps72
        go_wp2_with fail
        refine (HC.out _).mono ?_
        rintro e w' ⟨rfl, rfl⟩
        go_wp2_with fail
        refine (HSP.out _).mono ?_
        rintro e w1 ⟨rfl, hs1, hk1, hg1⟩
        have HG1 := Lib.hid hg1
        clear hg1
        have HS1 := Lib.hid hs1; have HK1 := Lib.hid hk1
        clear hs1 hk1
        go_wp2_with fail
        refine (HAN.out _ _ HS1.out).mono ?_
        rintro e w2 ⟨rfl, rfl⟩
        go_wp2_with fail
        go_ret2
        exact ⟨_, rfl, ⟨by rw [HNA.out]; exact HS1.out, HK1.out, (fun k hk => by cases hk; exact Nat.le_refl _), HG1.out⟩⟩
      | false =>
        rw [if_neg (fun e => by rw [hal] at e; cases e.2)] at hna
        have hn : ∀ (W W' : World), Kept (fun _ => False) W W' → (∃ os, W' = Go.Sort.grow W os) → SplitRes W W' s (.slice none 0 0) := fun W W' hk hg => ⟨by rw [hna]; exact Or.inl ⟨rfl, rfl⟩, hk, fun k hk => (by cases hk), hg⟩
        have HN := Lib.hid hn
        obtain ⟨xs, hxs⟩ : ∃ xs, xs = (cutL r).map mkS := ⟨_, rfl⟩
        rw [← hxs] at HSP hal
        have hxl : ¬ (8 : Int) < (xs.length : Int) := by rw [hxs, List.length_map]; omega
        rw [hna]
        have han := fun (v : Value) (W : World) (hv : Strs W v xs) => allNames_any v xs W hv
        rw [hal] at han
        have HAN := Lib.hid han
        clear h hc hsp hsz hna hp h8 hxs hal hr han hn
        generalize roomN (mkS r) = rn at HSP
        obtain ⟨n, hn⟩ : ∃ n, n = xs.length := ⟨_, rfl⟩
        rw [← hn] at HSP hxl
        clear hn hs
        go_enter Tryz.func72, Tryz.ntmps72
        go_wp2_with fail
        refine (HC.out _).mono ?_
        rintro e w' ⟨rfl, rfl⟩
        go_wp2_with fail
        refine (HSP.out _).mono ?_
        rintro e w1 ⟨rfl, hs1, hk1, hg1⟩
        have HG1 := Lib.hid hg1
        clear hg1
        have HS1 := Lib.hid hs1; have HK1 := Lib.hid hk1
        clear hs1 hk1
        go_wp2_with fail
        refine (HAN.out _ _ HS1.out).mono ?_
        rintro e w2 ⟨rfl, rfl⟩
        go_wp2_with fail
        go_ret2
        exact ⟨_, rfl, HN.out _ _ HK1.out HG1.out⟩
    · rw [if_neg (by omega)] at hna
      have hn : ∀ (W W' : World), Kept (fun _ => False) W W' → (∃ os, W' = Go.Sort.grow W os) → SplitRes W W' s (.slice none 0 0) := fun W W' hk hg => ⟨by rw [hna]; exact Or.inl ⟨rfl, rfl⟩, hk, fun k hk => (by cases hk), hg⟩
      have HN := Lib.hid hn
      have hxl : (8 : Int) < ((partsN (mkS r)).length : Int) := by omega
      rw [hna]
      clear h hc hsp hsz hna hp h8 hr hn
      generalize partsN (mkS r) = xs at HSP hxl
      generalize roomN (mkS r) = rn at HSP
      obtain ⟨n, hn⟩ : ∃ n, n = xs.length := ⟨_, rfl⟩
      rw [← hn] at HSP hxl
      clear hn hs
      go_enter Tryz.func72, Tryz.ntmps72
      go_wp2_with fail
      refine (HC.out _).mono ?_
      rintro e w' ⟨rfl, rfl⟩
      go_wp2_with fail
      refine (HSP.out _).mono ?_
      rintro e w1 ⟨rfl, hs1, hk1, hg1⟩
      have HG1 := Lib.hid hg1
      clear hg1
      have HK1 := Lib.hid hk1
      clear hs1 hk1
      go_wp2_with fail
      go_ret2
      exact ⟨_, rfl, HN.out _ _ HK1.out HG1.out⟩
end Go.Proofs.YtnnakllgfaaejaaGreatDoor
