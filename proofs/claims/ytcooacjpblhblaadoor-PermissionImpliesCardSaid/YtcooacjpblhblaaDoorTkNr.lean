/-
  The reference of names: Valid, Keywords, Word (NamR over NamU alone; never beside NamR).
-/
import Derived.Test.YtcooacjpblhblaaDoorNamU
namespace Go.Proofs.YtcooacjpblhblaaDoor
open Go.RowKit

set_option maxRecDepth 100000 in
theorem rkeywords_any (w : World) : Calls Tryd.prog 52 #[] w fun e w' => e = .returned (.slice (some ⟨w.heap.size, 0, none⟩) 20 20) ∧ Strs w' (.slice (some ⟨w.heap.size, 0, none⟩) 20 20) kwdL ∧ Kept (fun _ => False) w w' := by
  have hs := strs_new w (kwdL.map Value.string).toArray 9 20 kwdL rfl rfl (by unfold maxLen; omega)
  have hk := Kept.alloc (fun _ => False) w (.cells (kwdL.map Value.string).toArray 9)
  have HS := Lib.hid hs; have HK := Lib.hid hk
  clear hs hk
  go_enter Tryd.func52, Tryd.ntmps52
  go_wp2_with fail
  go_ret
  exact ⟨rfl, HS.out, HK.out⟩

set_option maxRecDepth 100000 in
set_option maxHeartbeats 3200000 in
theorem rvalid_any (s : ByteArray) (w : World) : Calls Tryd.prog 29 #[.string s] w fun e w' => e = .returned (.bool (validS s)) ∧ Kept (fun _ => False) w w' := by
  obtain ⟨V, hV⟩ : ∃ V, V = validS s := ⟨_, rfl⟩
  rw [← hV]
  have HV := Lib.hid hV
  clear hV
  have hAt := bat_at s
  have HAT := Lib.hid hAt
  clear hAt
  by_cases h0 : s.size = 0
  · have hv : V = false := by rw [HV.out]; exact validS_bad (Or.inl h0)
    subst hv
    go_enter Tryd.func29, Tryd.ntmps29
    go_wp2_with fail
    go_ret
    exact ⟨rfl, Kept.refl _ _⟩
  by_cases h12 : 12 < s.size
  · have h12i : (12 : Int) < (s.size : Int) := by omega
    have h0i : ¬ (s.size : Int) = 0 := by omega
    have hv : V = false := by rw [HV.out]; exact validS_bad (Or.inr (Or.inl h12))
    subst hv
    go_enter Tryd.func29, Tryd.ntmps29
    go_wp2_with fail
    go_ret
    exact ⟨rfl, Kept.refl _ _⟩
  have h12i : ¬ (12 : Int) < (s.size : Int) := by omega
  have h0i : ¬ (s.size : Int) = 0 := by omega
  have hsz : s.size ≤ 12 := by omega
  have hs0 : s.size ≠ 0 := h0
  have HS0 := Lib.hid hs0
  clear h12 hs0
  go_enter Tryd.func29, Tryd.ntmps29
  go_wp2_with fail
  clear h12i h0i h0
  go_loop [3] (fun iv => ∃ k : Nat, k ≤ s.size ∧ iv = .int .i64 k ∧ Hid (∀ j, j < k → chrB (bat s j) j = true)) (fun iv => s.size - (intOf iv).toNat)
  case atStart => exact ⟨0, by omega, rfl, fun j hj => by omega⟩
  case round =>
    obtain ⟨k, hk, rfl, hgo⟩ := hrel
    by_cases hlt : k < s.size
    · have l1 : (k : Int) < (s.size : Int) := by omega
      have l0 : (0 : Int) ≤ (k : Int) := by omega
      have ek := HAT.out k
      obtain ⟨c, hc⟩ : ∃ c, c = bat s k := ⟨_, rfl⟩
      rw [← hc] at ek
      have HC := Lib.hid hc
      clear hc
      have hbad : chrB c k = false → V = false := fun h => by rw [HV.out]; exact validS_bad (Or.inr (Or.inr ⟨k, hlt, by rw [← HC.out]; exact h⟩))
      have hnext : chrB c k = true → Hid (∀ j, j < k + 1 → chrB (bat s j) j = true) := fun h j hj => by
        by_cases e : j < k
        · exact hgo.out j e
        · obtain rfl : j = k := by omega
          rw [← HC.out]; exact h
      have hcase : (chrB c k = true ∧ (((97 : Int) ≤ c ∧ (c : Int) ≤ 122) ∨ (¬ ((97 : Int) ≤ c ∧ (c : Int) ≤ 122) ∧ ¬ (k : Int) = 0 ∧ (((48 : Int) ≤ c ∧ (c : Int) ≤ 57) ∨ (c : Int) = 95)))) ∨
          (chrB c k = false ∧ (¬ ((97 : Int) ≤ c ∧ (c : Int) ≤ 122)) ∧ ((k : Int) = 0 ∨ (¬ (k : Int) = 0 ∧ ¬ ((48 : Int) ≤ c ∧ (c : Int) ≤ 57) ∧ ¬ (c : Int) = 95))) := by
        by_cases hl : 97 ≤ c ∧ c ≤ 122
        · exact Or.inl ⟨by simp [chrB, letB, hl.1, hl.2], Or.inl (by omega)⟩
        · have hlf : letB c = false := by
            unfold letB
            rw [Bool.and_eq_false_iff, decide_eq_false_iff_not, decide_eq_false_iff_not]; omega
          by_cases hk0 : k = 0
          · exact Or.inr ⟨by rw [hk0]; simp [chrB, hlf], by omega, Or.inl (by omega)⟩
          · by_cases hd : (48 ≤ c ∧ c ≤ 57) ∨ c = 95
            · refine Or.inl ⟨?_, Or.inr ⟨by omega, by omega, by omega⟩⟩
              rcases hd with hd | hd
              · simp [chrB, hk0, digB, hd.1, hd.2]
              · simp [chrB, hk0, hd]
            · refine Or.inr ⟨?_, by omega, Or.inr ⟨by omega, by omega, by omega⟩⟩
              have hdf : digB c = false := by
                unfold digB
                rw [Bool.and_eq_false_iff, decide_eq_false_iff_not, decide_eq_false_iff_not]; omega
              have h95 : ¬ c = 95 := by omega
              simp [chrB, hlf, hdf, h95]
      have HBAD := Lib.hid hbad; have HNX := Lib.hid hnext
      clear hbad hnext hgo
      rcases hcase with ⟨hch, hcs⟩ | ⟨hch, hnl, hcs⟩
      · have hn := HNX.out hch
        clear hch
        have hd : ((97 : Int) ≤ c ∧ (c : Int) ≤ 122) ∨ (¬ (97 : Int) ≤ c ∧ ¬ k = 0 ∧ (48 : Int) ≤ c ∧ (c : Int) ≤ 57) ∨ (¬ (97 : Int) ≤ c ∧ ¬ k = 0 ∧ (48 : Int) ≤ c ∧ ¬ (c : Int) ≤ 57 ∧ (c : Int) = 95) := by omega
        clear hcs
        rcases hd with ⟨d1, d2⟩ | ⟨d1, d2, d3, d4⟩ | ⟨d1, d2, d3, d4, d5⟩
        all_goals
          go_wp2_with fail
          go_round
          case rel => exact ⟨k + 1, by omega, by go_num, hn⟩
          case measure => simp [intOf]; omega
      · have hv := HBAD.out hch
        subst hv
        clear hch
        have hd : (¬ (97 : Int) ≤ c ∧ k = 0 ∧ ¬ (48 : Int) ≤ c ∧ ¬ (c : Int) = 95) ∨ (¬ (97 : Int) ≤ c ∧ k = 0 ∧ (48 : Int) ≤ c ∧ (c : Int) ≤ 57) ∨ (¬ (97 : Int) ≤ c ∧ k = 0 ∧ (48 : Int) ≤ c ∧ ¬ (c : Int) ≤ 57 ∧ (c : Int) = 95) ∨ (¬ (97 : Int) ≤ c ∧ k = 0 ∧ (48 : Int) ≤ c ∧ ¬ (c : Int) ≤ 57 ∧ ¬ (c : Int) = 95) ∨
            ((97 : Int) ≤ c ∧ ¬ (c : Int) ≤ 122 ∧ k = 0 ∧ (48 : Int) ≤ c ∧ ¬ (c : Int) ≤ 57 ∧ ¬ (c : Int) = 95) ∨
            (¬ (97 : Int) ≤ c ∧ ¬ k = 0 ∧ ¬ (48 : Int) ≤ c ∧ ¬ (c : Int) = 95) ∨ (¬ (97 : Int) ≤ c ∧ ¬ k = 0 ∧ (48 : Int) ≤ c ∧ ¬ (c : Int) ≤ 57 ∧ ¬ (c : Int) = 95) ∨ ((97 : Int) ≤ c ∧ ¬ (c : Int) ≤ 122 ∧ ¬ k = 0 ∧ (48 : Int) ≤ c ∧ ¬ (c : Int) ≤ 57 ∧ ¬ (c : Int) = 95) := by omega
        clear hcs hnl
        rcases hd with ⟨d1, rfl, d3, d4⟩ | ⟨d1, rfl, d3, d4⟩ | ⟨d1, rfl, d3, d4, d5⟩ | ⟨d1, rfl, d3, d4, d5⟩ | ⟨d1, d2, rfl, d4, d5, d6⟩ | ⟨d1, d2, d3, d4⟩ | ⟨d1, d2, d3, d4, d5⟩ | ⟨d1, d2, d3, d4, d5, d6⟩
        all_goals
          go_wp2_with fail
          all_goals first
            | (go_ret; exact ⟨rfl, Kept.refl _ _⟩)
            | (exfalso; rename_i hx; have h2 := hx.2; simp at h2; omega)
    · obtain rfl : k = s.size := by omega
      have hv : V = !(memS s kwdL) := by rw [HV.out]; exact validS_good HS0.out hsz hgo.out
      have hm := memS_iff s kwdL
      have HV2 := Lib.hid hv; have HM := Lib.hid hm
      clear hv hgo hm
      go_wp2_with fail
      refine (rkeywords_any w).mono ?_
      rintro e w1 ⟨rfl, hs1, hk1⟩
      have HS1 := Lib.hid hs1; have HK1 := Lib.hid hk1
      clear hs1 hk1
      go_wp2_with fail
      go_loop [60] (fun iv => ∃ k : Nat, k ≤ 20 ∧ iv = .int .i64 k ∧ Hid (∀ j, j < k → kwdL.getD j ⟨#[]⟩ ≠ s)) (fun iv => 20 - (intOf iv).toNat)
      case atStart => exact ⟨0, by omega, rfl, fun j hj => by omega⟩
      case round =>
        obtain ⟨k, hk, rfl, hno⟩ := hrel
        have hkl : kwdL.length = 20 := rfl
        by_cases hlt : k < 20
        · have l1 : (k : Int) < 20 := by omega
          have l0 : (0 : Int) ≤ (k : Int) := by omega
          obtain ⟨g, off, hgo, _, hcell⟩ := HS1.out.at (k := k) (by rw [hkl]; exact hlt)
          cases hgo
          obtain ⟨x, hx⟩ : ∃ x, x = kwdL.getD k ⟨#[]⟩ := ⟨_, rfl⟩
          rw [← hx, Nat.zero_add] at hcell
          have HX := Lib.hid hx
          clear hx
          by_cases he : x = s
          · have hb : (x.toList == s.toList) = true := by rw [str_eq]; simp [he]
            have hm : memS s kwdL = true := HM.out.2 (by
              rw [← he, HX.out]
              have hk2 : k < kwdL.length := by rw [hkl]; exact hlt
              simp [List.getD, hk2])
            have hvf : V = false := by rw [HV2.out, hm]; rfl
            clear hm he hkl
            subst hvf
            go_wp2_with fail
            go_ret
            exact ⟨rfl, HK1.out⟩
          · have hb : (x.toList == s.toList) = false := by rw [str_eq]; simp [he]
            have hno2 : Hid (∀ j, j < k + 1 → kwdL.getD j ⟨#[]⟩ ≠ s) := fun j hj => by
              by_cases e : j < k
              · exact hno.out j e
              · obtain rfl : j = k := by omega
                rw [← HX.out]; exact he
            clear he hkl
            go_wp2_with fail
            go_round
            case rel => exact ⟨k + 1, by omega, by go_num, hno2⟩
            case measure => simp [intOf]; omega
        · obtain rfl : k = 20 := by omega
          have hm : memS s kwdL = false := by
            cases hmm : memS s kwdL with
            | false => rfl
            | true =>
              obtain ⟨i, hi, e⟩ := List.getElem_of_mem (HM.out.1 hmm)
              exact absurd (by simp [List.getD, hi, e]) (hno.out i (by rw [← hkl]; exact hi))
          have hvt : V = true := by rw [HV2.out, hm]; rfl
          clear hm hkl
          subst hvt
          go_wp2_with fail
          go_ret
          exact ⟨rfl, HK1.out⟩

/-- The texts that numbers stand for. -/
def wordL : List ByteArray := [⟨#[99, 108, 101, 114, 107]⟩, ⟨#[97, 117, 100, 105, 116, 111, 114]⟩, ⟨#[116, 101, 108, 108, 101, 114]⟩, ⟨#[104, 114]⟩, ⟨#[97]⟩, ⟨#[98]⟩, ⟨#[99, 50]⟩, ⟨#[120, 95, 49]⟩, ⟨#[99, 104, 105, 101, 102]⟩, ⟨#[110, 117, 114, 115, 101]⟩, ⟨#[97, 98, 99, 100, 101, 102, 103, 104, 105, 106, 107, 108]⟩, ⟨#[97, 98, 99, 100, 101, 102, 103, 104, 105, 106, 107, 108, 109]⟩, ⟨#[]⟩, ⟨#[65]⟩, ⟨#[50, 110, 100]⟩, ⟨#[95, 120]⟩, ⟨#[97, 45, 98]⟩, ⟨#[98, 121]⟩, ⟨#[117, 115, 101, 114, 115]⟩, ⟨#[97, 110, 100]⟩]
theorem wordL_short : ∀ x ∈ wordL, x.size ≤ 13 := by decide +kernel

end Go.Proofs.YtcooacjpblhblaaDoor
