/-
  arbacref01: Minus, Compare.
-/
import Derived.Test.YteaagllpkcpedaaDoorBRv
import Derived.Test.YteaagllpkcpedaaDoorBOm
namespace Go.Proofs.YteaagllpkcpedaaDoor
open Go.RowKit

/-- Where the numbers of a list lie. -/
theorem Ints.at {w : World} {a : Option Addr} {n c : Nat} {xs : List Int} (h : Ints w (.slice a n c) xs) : ∀ k, k < xs.length → ∃ g off, a = some ⟨g, off, none⟩ ∧ ∀ W, Kept (fun _ => False) w W → W.cell? ⟨g, off + k, none⟩ = some (.int .i64 (xs.getD k 0)) := by
  intro k hk
  rcases h with ⟨_, rfl⟩ | ⟨g, off, cap, e, _, _, h3, h4⟩
  · simp at hk
  · cases e
    exact ⟨g, off, rfl, fun W hkw => (hkw.cell (p := ⟨g, off + k, none⟩) h3 (fun h => h)).trans (h4 k hk)⟩
theorem Ints.len {w : World} {v : Value} {xs : List Int} (h : Ints w v xs) : xs.length ≤ 9223372036854775807 := by
  rcases h with ⟨_, rfl⟩ | ⟨_, _, _, _, h1, h2, _⟩
  · simp
  · unfold maxLen at h2; omega

set_option maxRecDepth 100000 in
set_option maxHeartbeats 1600000 in
theorem rminus_any (w : World) (v u : Value) (xs ys : List Int) (h : Ints w v xs) (hu : Ints w u ys) (hl : xs.length ≤ 5000) :
    Calls Tryd.prog 19 #[v, u] w fun e w' => ∃ r, e = .returned r ∧ OwnI w' w.heap.size r (xs.filter fun x => !decide (x ∈ ys)) ∧ Kept (fun _ => False) w w' := by
  obtain ⟨a, c, rfl⟩ := h.form
  obtain ⟨a2, c2, rfl⟩ := hu.form
  have HC := Lib.hid h.at
  have HU := Lib.hid hu
  have HL := Lib.hid hl
  have hlb := h.len
  clear h hl hu
  go_enter Tryd.func19, Tryd.ntmps19
  go_wp2_with fail
  go_loopw [5, 10] (fun ov iv wr => ∃ (k : Nat), k ≤ xs.length ∧ iv = .int .i64 k ∧ Hid (OwnI wr w.heap.size ov ((xs.take k).filter fun x => !decide (x ∈ ys))) ∧ Hid (Kept (fun _ => False) w wr)) (fun _ iv _ => xs.length - (intOf iv).toNat)
  case atStart => exact ⟨0, Nat.zero_le _, rfl, OwnI.nil _ _, Kept.refl _ _⟩
  case round =>
    obtain ⟨k, hk, rfl, ho, hkw⟩ := hrel
    by_cases hlt : k < xs.length
    · have hlt' : (k : Int) < (xs.length : Int) := by omega
      obtain ⟨g, off, rfl, hck⟩ := HC.out k hlt
      have hstep := filter_take (fun x => !decide (x ∈ ys)) xs k hlt
      obtain ⟨x, hx⟩ : ∃ x, x = xs.getD k 0 := ⟨_, rfl⟩
      rw [← hx] at hck hstep
      have ck := hck wr hkw.out
      have hfl : ((xs.take k).filter fun x => !decide (x ∈ ys)).length ≤ 5000 := by
        have h1 := List.length_filter_le (fun x => !decide (x ∈ ys)) (xs.take k)
        have h2 := HL.out
        rw [List.length_take] at h1; omega
      have HB : Hid (_ ≤ 900000) := Lib.hid (Nat.le_trans hfl (by omega)); have HS := Lib.hid hstep
      clear hx hstep hck hfl
      generalize ((xs.take k).filter fun x => !decide (x ∈ ys)) = acc at ho HS HB
      go_wp2_with fail
      refine (rhas_any _ _ ys x (HU.out.kept hkw.out (fun _ _ h => h))).mono ?_
      rintro e w2 ⟨rfl, rfl⟩
      cases hm : decide (x ∈ ys) with
      | true =>
        have HS2 : Hid (((xs.take (k + 1)).filter fun x => !decide (x ∈ ys)) = acc) := by show _ = _; rw [HS.out, hm]; rfl
        clear HS hm ck
        go_wp2_with fail
        go_roundw
        case rel => exact ⟨k + 1, by omega, by go_num, by rw [HS2.out]; exact ho, hkw⟩
        case measure => simp [intOf]; omega
      | false =>
        have HS2 : Hid (((xs.take (k + 1)).filter fun x => !decide (x ∈ ys)) = acc ++ [x]) := by show _ = _; rw [HS.out, hm]; rfl
        clear HS hm ck
        go_wp2_with (at_builtin; refine wpList_push (by rfl) _ _ rfl rfl w.heap.size _ _ wr.heap.size x rfl rfl (ho.out.alloc _) (by go_simp) (HB.out) (by have := hkw.out.size; simp; omega) ?_)
        intro v' w3 hown' hgrow3
        have HO : Hid (OwnI w3 w.heap.size v' ((xs.take (k + 1)).filter fun x => !decide (x ∈ ys))) := by
          show OwnI _ _ _ _
          rw [HS2.out]
          exact hown'
        have HK3 : Hid (Kept (fun _ => False) w w3) := (hkw.out.then (Kept.alloc _ _ _)).trans hgrow3 (fun _ _ h => h) (fun i hi e => by have := ho.out.lt i e; omega)
        clear hgrow3 hown'
        go_wp2
        go_roundw
        case rel => exact ⟨k + 1, by omega, by go_num, HO, HK3⟩
        case measure => simp [intOf]; omega
    · have hkx : k = xs.length := by omega
      have ho2 := ho.out
      rw [hkx, List.take_length] at ho2
      have HO := Lib.hid ho2
      have hnl : ¬ (k : Int) < (xs.length : Int) := by omega
      clear hkx ho ho2
      go_wp2_with fail
      go_ret
      exact ⟨_, rfl, HO.out, hkw.out⟩

theorem cmpL_step (xs ys : List Int) (k : Nat) (hx : k < xs.length) (hy : k < ys.length) : cmpL (xs.drop k) (ys.drop k) = if xs.getD k 0 < ys.getD k 0 then -1 else if ys.getD k 0 < xs.getD k 0 then 1 else cmpL (xs.drop (k + 1)) (ys.drop (k + 1)) := by
  rw [List.drop_eq_getElem_cons hx, List.drop_eq_getElem_cons hy, cmpL]
  simp [List.getD, hx, hy]
theorem cmpL_stop (xs ys : List Int) (k : Nat) (h : xs.length ≤ k ∨ ys.length ≤ k) (hx : k ≤ xs.length) (hy : k ≤ ys.length) : cmpL (xs.drop k) (ys.drop k) = if xs.length < ys.length then -1 else if ys.length < xs.length then 1 else 0 := by
  by_cases h1 : xs.length ≤ k
  · rw [List.drop_eq_nil_of_le h1]
    by_cases h2 : ys.length ≤ k
    · rw [List.drop_eq_nil_of_le h2, if_neg (by omega), if_neg (by omega)]; rfl
    · rw [List.drop_eq_getElem_cons (by omega : k < ys.length), if_pos (by omega)]; rfl
  · rw [List.drop_eq_nil_of_le (by omega : ys.length ≤ k), List.drop_eq_getElem_cons (by omega : k < xs.length), if_neg (by omega), if_pos (by omega)]; rfl

set_option maxRecDepth 100000 in
set_option maxHeartbeats 1600000 in
theorem rcompare_any (w : World) (v u : Value) (xs ys : List Int) (h : Ints w v xs) (hu : Ints w u ys) :
    Calls Tryd.prog 23 #[v, u] w fun e w' => e = .returned (.int .i64 (cmpL xs ys)) ∧ Kept (fun _ => False) w w' := by
  obtain ⟨a, c, rfl⟩ := h.form
  obtain ⟨a2, c2, rfl⟩ := hu.form
  have HC := Lib.hid h.at; have HD := Lib.hid hu.at
  have hl1 := h.len; have hl2 := hu.len
  clear h hu
  go_enter Tryd.func23, Tryd.ntmps23
  go_wp2_with fail
  go_loopw [5] (fun iv wr => ∃ (k : Nat), k ≤ xs.length ∧ k ≤ ys.length ∧ iv = .int .i64 k ∧ Hid (cmpL xs ys = cmpL (xs.drop k) (ys.drop k)) ∧ Hid (Kept (fun _ => False) w wr)) (fun iv _ => xs.length - (intOf iv).toNat)
  case atStart => exact ⟨0, Nat.zero_le _, Nat.zero_le _, rfl, rfl, Kept.refl _ _⟩
  case round =>
    obtain ⟨k, hk, hk2, rfl, hc, hkw⟩ := hrel
    by_cases hlt : k < xs.length ∧ k < ys.length
    · have hlt1 : (k : Int) < (xs.length : Int) := by omega
      have hlt2 : (k : Int) < (ys.length : Int) := by omega
      have hk0 : (0 : Int) ≤ (k : Int) := by omega
      obtain ⟨g, off, rfl, hck⟩ := HC.out k hlt.1
      obtain ⟨g2, off2, rfl, hck2⟩ := HD.out k hlt.2
      have hst := cmpL_step xs ys k hlt.1 hlt.2
      have ck := hck wr hkw.out
      have ck2 := hck2 wr hkw.out
      have ckd := hck wr.drew hkw.out.drew
      have ckd2 := hck2 wr.drew hkw.out.drew
      rw [← hc.out] at hst
      generalize xs.getD k 0 = x at hst ck ckd
      generalize ys.getD k 0 = y at hst ck2 ckd2
      have HS := Lib.hid hst
      have HCK : Hid (wr.drew.cell? ⟨g, off + k, none⟩ = some (.int .i64 x) ∧ wr.drew.cell? ⟨g2, off2 + k, none⟩ = some (.int .i64 y)) := ⟨ckd, ckd2⟩
      clear hst hck hck2 ckd ckd2
      have hcs : x < y ∨ (¬ x < y ∧ y < x) ∨ (¬ x < y ∧ ¬ y < x) := by omega
      rcases hcs with h1 | ⟨h1, h2⟩ | ⟨h1, h2⟩
      · have HR : Hid (cmpL xs ys = -1) := by show _ = _; rw [HS.out, if_pos h1]
        clear HS hc
        go_wp2_with fail
        go_region
        all_goals
          clear ck ck2
          go_wp2_with fail
          go_ret
          exact ⟨by rw [HR.out]; rfl, hkw.out.drew⟩
      · have HR : Hid (cmpL xs ys = 1) := by show _ = _; rw [HS.out, if_neg h1, if_pos h2]
        clear HS hc
        go_wp2_with fail
        go_region
        all_goals
          clear ck ck2
          obtain ⟨ck, ck2⟩ := HCK.out
          have HK2 := Lib.hid hkw.out.drew.drew
          go_wp2_with fail
          go_region
          all_goals
            clear ck ck2
            go_wp2_with fail
            go_ret
            exact ⟨by rw [HR.out]; rfl, HK2.out⟩
      · have HR : Hid (cmpL xs ys = cmpL (xs.drop (k + 1)) (ys.drop (k + 1))) := by show _ = _; rw [HS.out, if_neg h1, if_neg h2]
        clear HS hc
        go_wp2_with fail
        go_region
        all_goals
          clear ck ck2
          obtain ⟨ck, ck2⟩ := HCK.out
          have HK2 := Lib.hid hkw.out.drew.drew
          go_wp2_with fail
          go_region
          all_goals
            clear ck ck2
            go_wp2_with fail
            go_roundw
            case rel => exact ⟨k + 1, by omega, by omega, by go_num, HR, HK2⟩
            case measure => simp [intOf]; omega
    · have hst := cmpL_stop xs ys k (by omega) hk hk2
      rw [← hc.out] at hst
      have HS := Lib.hid hst
      have hcs : (¬ (k : Int) < (xs.length : Int)) ∨ ((k : Int) < (xs.length : Int) ∧ ¬ (k : Int) < (ys.length : Int)) := by omega
      have hct : ((xs.length : Int) < (ys.length : Int) ∧ cmpL xs ys = -1) ∨ (¬ (xs.length : Int) < (ys.length : Int) ∧ (ys.length : Int) < (xs.length : Int) ∧ cmpL xs ys = 1) ∨ (¬ (xs.length : Int) < (ys.length : Int) ∧ ¬ (ys.length : Int) < (xs.length : Int) ∧ cmpL xs ys = 0) := by
        by_cases h1 : xs.length < ys.length
        · exact Or.inl ⟨by omega, by rw [HS.out, if_pos h1]⟩
        · by_cases h2 : ys.length < xs.length
          · exact Or.inr (Or.inl ⟨by omega, by omega, by rw [HS.out, if_neg h1, if_pos h2]⟩)
          · exact Or.inr (Or.inr ⟨by omega, by omega, by rw [HS.out, if_neg h1, if_neg h2]⟩)
      clear HS hst hc hlt hk hk2
      rcases hct with ⟨h1, h2⟩ | ⟨h1, h3, h2⟩ | ⟨h1, h3, h2⟩
      all_goals
        have HR := Lib.hid h2
        clear h2
        rcases hcs with hc1 | ⟨hc1, hc2⟩
        all_goals
          go_wp2_with fail
          go_ret
          exact ⟨by rw [HR.out]; rfl, hkw.out⟩
end Go.Proofs.YteaagllpkcpedaaDoor
