import Derived.Test.YtjglnpijngdpkaaDoorDyE
/-
  Days: the reference's Check, Len, Next.
-/
namespace Go.Proofs.YtjglnpijngdpkaaDoor
open Go.RowKit Go.Shelf
set_option linter.unusedSimpArgs false
set_option linter.unusedVariables false
set_option maxRecDepth 100000

/-- Flags in memory. -/
def EB : REnc Bool := ⟨fun b => [.bool b], 1, false, fun _ => rfl, fun x v h => by simp at h; subst h; rfl, by omega⟩
theorem atEB {w : World} {g o : Nat} {b : Bool} (h : AtG EB w g o b) : w.cell? ⟨g, o, none⟩ = some (.bool b) := h 0 _ rfl
/-- How many flags are set. -/
def cntT (s : List Bool) : Nat := (s.filter fun b => b).length
theorem cntT_snoc (s : List Bool) (b : Bool) : cntT (s ++ [b]) = cntT s + (if b = true then 1 else 0) := by
  unfold cntT
  rw [List.filter_append, List.length_append]
  cases b <;> rfl
theorem cntT_le (s : List Bool) : cntT s ≤ s.length := List.length_filter_le _ _

set_option maxHeartbeats 1600000 in
theorem rlenD_any (w : World) (v : Value) (s : List Bool) (h : RowG EB w v s) (hs : s.length ≤ 100000) :
    Calls Tryd.prog 29 #[v] w fun e w' => e = .returned (.int .i64 (cntT s : Nat)) ∧ w = w' := by
  obtain ⟨a, c, rfl, h1, h2⟩ := h.form
  have HV := Lib.hid h
  obtain ⟨N, hN⟩ : ∃ N, N = s.length := ⟨_, rfl⟩
  rw [← hN] at HV hs h1 ⊢
  have HN := Lib.hid hN
  unfold maxLen at h2
  clear h hN
  go_enter Tryd.func29, Tryd.ntmps29
  go_wp2_with fail
  go_loopw [3, 5, 8] (fun nv _ iv wr => ∃ (k m : Nat), k ≤ N ∧ m ≤ k ∧ iv = .int .i64 (k : Int) ∧ nv = .int .i64 (m : Int) ∧ Hid (m = cntT (s.take k)) ∧ wr = w) (fun _ _ iv _ => N - (intOf iv).toNat)
  case atStart => exact ⟨0, 0, Nat.zero_le _, Nat.le_refl _, rfl, rfl, Lib.hid rfl, rfl⟩
  case round =>
    obtain ⟨k, m, hk, hmk, rfl, rfl, hm, rfl⟩ := hrel
    by_cases hlt : k < N
    · have l1 : (k : Int) < (N : Int) := by omega
      have l0 : (0 : Int) ≤ (k : Int) := by omega
      have hkl : k < s.length := by have := HN.out; omega
      obtain ⟨g, off, rfl, hg, hat⟩ := HV.out.at (k := k) hkl
      have htk : s.take (k + 1) = s.take k ++ [s.getD k false] := by rw [List.take_add_one]; simp [List.getD, hkl]
      have hcnt := cntT_snoc (s.take k) (s.getD k false)
      rw [← htk] at hcnt
      change AtG EB wr g (off + k * 1) (s.getD k false) at hat
      rw [Nat.mul_one] at hat
      generalize s.getD k false = b at hat hcnt
      have c0 := atEB hat
      have HC := Lib.hid hcnt
      clear hat hcnt htk
      cases b with
      | true =>
        have HM2 : Hid (m + 1 = cntT (s.take (k + 1))) := Lib.hid (by rw [HC.out, hm.out]; rfl)
        go_wp2_with fail
        go_roundw
        case rel => exact ⟨k + 1, m + 1, by omega, by omega, by go_num, by go_num, HM2, by first | rfl | trivial⟩
        case measure => simp [intOf]; omega
      | false =>
        have HM2 : Hid (m = cntT (s.take (k + 1))) := Lib.hid (by rw [HC.out, hm.out]; rfl)
        go_wp2_with fail
        go_roundw
        case rel => exact ⟨k + 1, m, by omega, by omega, by go_num, rfl, HM2, by first | rfl | trivial⟩
        case measure => simp [intOf]; omega
    · obtain rfl : k = N := by omega
      have e1 : cntT s = m := by rw [hm.out, List.take_of_length_le (by rw [← HN.out]; exact Nat.le_refl _)]
      have HE := Lib.hid e1
      clear e1 hm
      go_wp2_with fail
      go_ret
      exact ⟨by rw [HE.out]; rfl, rfl⟩

/-- What Next of the reference answers. -/
def NextF (s : List Bool) (d r : Int) : Prop :=
  (r = -1 ∧ ∀ x : Nat, d ≤ (x : Int) → x ≤ 30000 → s.getD x false = false) ∨ (∃ n : Nat, r = (n : Int) ∧ d ≤ r ∧ n ≤ 30000 ∧ s.getD n false = true ∧ ∀ x : Nat, d ≤ (x : Int) → x < n → s.getD x false = false)

set_option maxHeartbeats 1600000 in
theorem rnextD_any (w : World) (v : Value) (s : List Bool) (d : Int) (h : RowG EB w v s) (hs : s.length = 30001) :
    Calls Tryd.prog 27 #[v, .int .i64 d] w fun e w' => ∃ r, e = .returned (.int .i64 r) ∧ NextF s d r ∧ w = w' := by
  obtain ⟨a, c, rfl, h1, h2⟩ := h.form
  have HV := Lib.hid h
  rw [hs] at HV h1 ⊢
  have HS := Lib.hid hs
  unfold maxLen at h2
  clear h hs
  obtain ⟨k0, hk0, hk1⟩ : ∃ k0 : Nat, ((d < 0 ∧ k0 = 0) ∨ (0 ≤ d ∧ d = (k0 : Int))) ∧ True := by
    by_cases hd : d < 0
    · exact ⟨0, Or.inl ⟨hd, rfl⟩, trivial⟩
    · exact ⟨d.toNat, Or.inr ⟨by omega, by omega⟩, trivial⟩
  have HK : Hid (∀ x : Nat, d ≤ (x : Int) ↔ k0 ≤ x) := Lib.hid fun x => by omega
  clear hk1
  rcases hk0 with ⟨hd, rfl⟩ | ⟨hd, rfl⟩
  · go_enter Tryd.func27, Tryd.ntmps27
    go_wp2_with fail
    go_loopw [1] (fun iv wr => ∃ (k : Nat), iv = .int .i64 (k : Int) ∧ Hid (0 ≤ k ∧ ∀ x : Nat, 0 ≤ x → x < k → s.getD x false = false) ∧ wr = w) (fun iv _ => 30001 - (intOf iv).toNat)
    case atStart => exact ⟨0, rfl, Lib.hid ⟨Nat.le_refl _, fun x h1 h2 => by omega⟩, rfl⟩
    case round =>
      obtain ⟨k, rfl, hb, rfl⟩ := hrel
      by_cases hlt : (k : Int) ≤ 30000
      · have l0 : (0 : Int) ≤ (k : Int) := by omega
        have l1 : (k : Int) < 30001 := by omega
        have hkl : k < s.length := by have := HS.out; omega
        obtain ⟨g, off, rfl, hg, hat⟩ := HV.out.at (k := k) hkl
        change AtG EB wr g (off + k * 1) (s.getD k false) at hat
        rw [Nat.mul_one] at hat
        obtain ⟨b, hbb⟩ : ∃ b, b = s.getD k false := ⟨_, rfl⟩
        rw [← hbb] at hat
        have c0 := atEB hat
        have HB := Lib.hid hbb
        clear hat hbb
        cases b with
        | true =>
          go_wp2_with fail
          go_ret
          exact ⟨_, rfl, Or.inr ⟨k, rfl, (HK.out k).2 hb.out.1, by omega, HB.out.symm, fun x h1 h2 => hb.out.2 x ((HK.out x).1 h1) h2⟩, rfl⟩
        | false =>
          have HB2 : Hid (0 ≤ k + 1 ∧ ∀ x : Nat, 0 ≤ x → x < k + 1 → s.getD x false = false) := Lib.hid ⟨by have := hb.out.1; omega, fun x h1 h2 => by
            by_cases e : x = k
            · rw [e]; exact HB.out.symm
            · exact hb.out.2 x h1 (by omega)⟩
          go_wp2_with fail
          go_roundw
          case rel => exact ⟨k + 1, by go_num, HB2, by first | rfl | trivial⟩
          case measure => simp [intOf]; omega
      · go_wp2_with fail
        go_ret
        exact ⟨_, rfl, Or.inl ⟨rfl, fun x h1 h2 => hb.out.2 x ((HK.out x).1 h1) (by omega)⟩, rfl⟩
  · go_enter Tryd.func27, Tryd.ntmps27
    go_wp2_with fail
    go_loopw [1] (fun iv wr => ∃ (k : Nat), iv = .int .i64 (k : Int) ∧ Hid (k0 ≤ k ∧ ∀ x : Nat, k0 ≤ x → x < k → s.getD x false = false) ∧ wr = w) (fun iv _ => 30001 - (intOf iv).toNat)
    case atStart => exact ⟨k0, rfl, Lib.hid ⟨Nat.le_refl _, fun x h1 h2 => by omega⟩, rfl⟩
    case round =>
      obtain ⟨k, rfl, hb, rfl⟩ := hrel
      by_cases hlt : (k : Int) ≤ 30000
      · have l0 : (0 : Int) ≤ (k : Int) := by omega
        have l1 : (k : Int) < 30001 := by omega
        have hkl : k < s.length := by have := HS.out; omega
        obtain ⟨g, off, rfl, hg, hat⟩ := HV.out.at (k := k) hkl
        change AtG EB wr g (off + k * 1) (s.getD k false) at hat
        rw [Nat.mul_one] at hat
        obtain ⟨b, hbb⟩ : ∃ b, b = s.getD k false := ⟨_, rfl⟩
        rw [← hbb] at hat
        have c0 := atEB hat
        have HB := Lib.hid hbb
        clear hat hbb
        cases b with
        | true =>
          go_wp2_with fail
          go_ret
          exact ⟨_, rfl, Or.inr ⟨k, rfl, (HK.out k).2 hb.out.1, by omega, HB.out.symm, fun x h1 h2 => hb.out.2 x ((HK.out x).1 h1) h2⟩, rfl⟩
        | false =>
          have HB2 : Hid (k0 ≤ k + 1 ∧ ∀ x : Nat, k0 ≤ x → x < k + 1 → s.getD x false = false) := Lib.hid ⟨by have := hb.out.1; omega, fun x h1 h2 => by
            by_cases e : x = k
            · rw [e]; exact HB.out.symm
            · exact hb.out.2 x h1 (by omega)⟩
          go_wp2_with fail
          go_roundw
          case rel => exact ⟨k + 1, by go_num, HB2, by first | rfl | trivial⟩
          case measure => simp [intOf]; omega
      · go_wp2_with fail
        go_ret
        exact ⟨_, rfl, Or.inl ⟨rfl, fun x h1 h2 => hb.out.2 x ((HK.out x).1 h1) (by omega)⟩, rfl⟩

set_option maxHeartbeats 1600000 in
theorem rcheckD_any (w : World) (v : Value) (l : List (Int × Int)) (h : RowG ESp w v l) (hl : l.length ≤ 100000) :
    Calls Tryd.prog 13 #[v] w fun e w' => e = .returned (.int .i64 (errD l)) ∧ Kept (fun _ => False) w w' := by
  obtain ⟨la, lc, rfl, h1, h2⟩ := h.form
  have HV := Lib.hid h
  obtain ⟨N, hN⟩ : ∃ N, N = l.length := ⟨_, rfl⟩
  obtain ⟨E, hE⟩ : ∃ E, E = errD l := ⟨_, rfl⟩
  rw [← hN] at HV hl h1 ⊢
  rw [← hE]
  have HN := Lib.hid hN; have HE := Lib.hid hE
  unfold maxLen at h2
  clear h hN hE
  go_enter Tryd.func13, Tryd.ntmps13
  go_wp2_with fail
  go_loopw [4, 7] (fun _ iv wr => ∃ (k : Nat), k ≤ N ∧ iv = .int .i64 (k : Int) ∧ Hid (errD (l.drop k) = E) ∧ Hid (Kept (fun _ => False) w wr)) (fun _ iv _ => N - (intOf iv).toNat)
  case atStart => exact ⟨0, Nat.zero_le _, rfl, Lib.hid (by rw [HE.out]; rfl), Lib.hid (Kept.refl _ _)⟩
  case round =>
    obtain ⟨k, hk, rfl, her, hkw⟩ := hrel
    by_cases hlt : k < N
    · have l1 : (k : Int) < (N : Int) := by omega
      have l0 : (0 : Int) ≤ (k : Int) := by omega
      have hkl : k < l.length := by have := HN.out; omega
      obtain ⟨g, off, rfl, hg, hc⟩ := (HV.out.on hkw.out).at (k := k) hkl
      have hed := errD_drop hkl
      rw [her.out] at hed
      change AtG ESp wr g (off + k * 2) (l.getD k (0, 0)) at hc
      generalize l.getD k (0, 0) = p at hc hed
      obtain ⟨pf, pt⟩ := p
      obtain ⟨c0, c1⟩ := atESp hc
      simp only at c0 c1 hed
      have hka : Kept (fun _ => False) wr (wr.alloc (.cells #[.int .i64 pf, .int .i64 pt] 71)) := Kept.alloc _ _ _
      have HKW := Lib.hid (hkw.out.then hka)
      have HBX : Hid ((wr.alloc (.cells #[.int .i64 pf, .int .i64 pt] 71)).cell? ⟨wr.heap.size, 0, none⟩ = some (.int .i64 pf) ∧ (wr.alloc (.cells #[.int .i64 pf, .int .i64 pt] 71)).cell? ⟨wr.heap.size, 1, none⟩ = some (.int .i64 pt)) := Lib.hid ⟨by go_simp, by go_simp⟩
      have HED := Lib.hid hed
      clear hc hg hed hka her hkw
      by_cases hc1 : pf < 0
      · have hE2 : E = 2 := by rw [HED.out, if_neg]; simp; omega
        subst hE2
        obtain ⟨x0, x1⟩ := HBX.out
        go_wp2_with fail
        go_ret
        exact ⟨rfl, HKW.out⟩
      · by_cases hc2 : 30000 < pf
        · have hE2 : E = 2 := by rw [HED.out, if_neg]; simp; omega
          subst hE2
          obtain ⟨x0, x1⟩ := HBX.out
          go_wp2_with fail
          go_ret
          exact ⟨rfl, HKW.out⟩
        · by_cases hc3 : pt < 0
          · have hE2 : E = 2 := by rw [HED.out, if_neg]; simp; omega
            subst hE2
            obtain ⟨x0, x1⟩ := HBX.out
            go_wp2_with fail
            go_ret
            exact ⟨rfl, HKW.out⟩
          · by_cases hc4 : 30000 < pt
            · have hE2 : E = 2 := by rw [HED.out, if_neg]; simp; omega
              subst hE2
              obtain ⟨x0, x1⟩ := HBX.out
              go_wp2_with fail
              go_ret
              exact ⟨rfl, HKW.out⟩
            · by_cases hft : pt < pf
              · have hE2 : E = 1 := by rw [HED.out, if_pos (by simp; omega), if_pos hft]
                subst hE2
                obtain ⟨x0, x1⟩ := HBX.out
                go_wp2_with fail
                go_ret
                exact ⟨rfl, HKW.out⟩
              · have HNX : Hid (errD (l.drop (k + 1)) = E) := Lib.hid (by rw [HED.out, if_pos (by simp; omega), if_neg hft])
                go_wp2_with fail
                obtain ⟨x0, x1⟩ := HBX.out
                go_wp2_with fail
                go_roundw
                case rel => exact ⟨k + 1, by omega, by go_num, HNX, HKW⟩
                case measure => simp [intOf]; omega
    · obtain rfl : k = N := by omega
      have hE0 : E = 0 := by
        have := her.out
        rw [HN.out, List.drop_length] at this
        exact this.symm
      subst hE0
      go_wp2_with fail
      go_ret
      exact ⟨rfl, hkw.out⟩
end Go.Proofs.YtjglnpijngdpkaaDoor
