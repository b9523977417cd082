/-
  The reference's order: bytesLess, Less.
-/
import Derived.Test.YtndedphkgkmckaaDoorPaO
import Derived.Test.YtndedphkgkmckaaDoorPaW
import Derived.Test.YtndedphkgkmckaaDoorPaR
namespace Go.Proofs.YtndedphkgkmckaaDoor
open Go.RowKit
set_option linter.unusedSimpArgs false
set_option linter.unusedVariables false

def lessB (a b : ByteArray) : Bool := decide (cmpB a b = -1)
theorem lessB_eq (a b : ByteArray) : lessB a b = Op.bytesLess a.data.toList b.data.toList := by
  unfold lessB cmpB
  rcases cmpB_cases a.data.toList b.data.toList with ⟨h1, h2, _⟩ | ⟨h1, h2, _⟩ | ⟨h1, h2, _⟩ <;> rw [h1, h2] <;> decide

theorem bless_at : ∀ (a b : List UInt8) (k : Nat), k ≤ a.length → k ≤ b.length → (∀ i, i < k → a.getD i 0 = b.getD i 0) → Op.bytesLess a b = Op.bytesLess (a.drop k) (b.drop k)
  | a, b, 0, _, _, _ => rfl
  | [], _, k + 1, h, _, _ => by simp at h
  | _, [], k + 1, _, h, _ => by simp at h
  | x :: a, y :: b, k + 1, h1, h2, h => by
    have h0 := h 0 (by omega)
    simp at h0
    subst h0
    rw [show Op.bytesLess (x :: a) (x :: b) = Op.bytesLess a b by
      show (decide (x < x) || (x == x && Op.bytesLess a b)) = _
      have : ¬ x < x := UInt8.lt_irrefl x
      simp [this]]
    rw [bless_at a b k (by simpa using h1) (by simpa using h2) (fun i hi => by have := h (i + 1) (by omega); simpa using this)]
    rfl

theorem bat_eq {a b : ByteArray} {i : Nat} (h1 : i < a.size) (h2 : i < b.size) (h : bat a i = bat b i) : a.data.toList.getD i 0 = b.data.toList.getD i 0 := by
  rw [bat_list a i h1, bat_list b i h2] at h
  exact UInt8.toNat_inj.1 h

theorem lessB_end {a b : ByteArray} {k : Nat} (h : ∀ i, i < k → bat a i = bat b i) (ha : k ≤ a.size) (hb : k ≤ b.size) (he : k = a.size ∨ k = b.size) : lessB a b = decide (a.size < b.size) := by
  have hal : a.data.toList.length = a.size := rfl
  have hbl : b.data.toList.length = b.size := rfl
  rw [lessB_eq, bless_at _ _ k (by omega) (by omega) (fun i hi => bat_eq (by omega) (by omega) (h i hi))]
  rcases he with rfl | rfl
  · rw [List.drop_of_length_le (by omega)]
    cases hd : b.data.toList.drop a.size with
    | nil =>
      have := congrArg List.length hd
      simp at this
      simp [Op.bytesLess]; omega
    | cons y t =>
      have := congrArg List.length hd
      rw [List.length_drop] at this
      simp at this
      simp [Op.bytesLess]; omega
  · rw [List.drop_of_length_le (l := b.data.toList) (by omega)]
    have : Op.bytesLess (a.data.toList.drop b.size) [] = false := by unfold Op.bytesLess; rfl
    rw [this]
    simp; omega

theorem lessB_stop {a b : ByteArray} {k : Nat} (h : ∀ i, i < k → bat a i = bat b i) (ha : k < a.size) (hb : k < b.size) (he : bat a k ≠ bat b k) : lessB a b = decide (bat a k < bat b k) := by
  have hal : a.data.toList.length = a.size := rfl
  have hbl : b.data.toList.length = b.size := rfl
  rw [lessB_eq, bless_at _ _ k (by omega) (by omega) (fun i hi => bat_eq (by omega) (by omega) (h i hi))]
  rw [List.drop_eq_getElem_cons (l := a.data.toList) (i := k) (by omega), List.drop_eq_getElem_cons (l := b.data.toList) (i := k) (by omega)]
  have e1 : bat a k = (a.data.toList[k]).toNat := by rw [bat_list a k ha]; simp [List.getD, hal, ha]
  have e2 : bat b k = (b.data.toList[k]).toNat := by rw [bat_list b k hb]; simp [List.getD, hbl, hb]
  rw [e1, e2] at he ⊢
  generalize a.data.toList[k] = x at he ⊢
  generalize b.data.toList[k] = y at he ⊢
  show (decide (x < y) || (x == y && _)) = _
  have hne : (x == y) = false := beq_eq_false_iff_ne.2 fun e => he (by rw [e])
  rw [hne]
  simp [UInt8.lt_iff_toNat_lt]

theorem drew_then {w wr : World} (h : ∃ q, wr = w.drewN q) (n : Nat) : ∃ q, wr.drewN n = w.drewN q := by
  obtain ⟨q, rfl⟩ := h
  exact ⟨q + n, by simp [World.drewN, Nat.add_assoc]⟩
theorem quiet_left8 {P : Program} {f : FuncId} {args : Array Value} {w : World} {n : Nat} {v : Value}
    (h : Calls P f args (w.drewN n) fun e w' => e = .returned v ∧ ∃ m, w' = (w.drewN n).drewN m) : Calls P f args (w.drewN n) fun e w'' => e = .returned v ∧ ∃ m, w'' = w.drewN m := by
  refine h.mono ?_
  rintro e w' ⟨rfl, m, rfl⟩
  exact ⟨rfl, n + m, by simp [World.drewN, Nat.add_assoc]⟩

set_option maxRecDepth 100000 in
set_option maxHeartbeats 1600000 in
theorem bless_any (s t : ByteArray) (hs : s.size ≤ 100000) (ht : t.size ≤ 100000) (w : World) :
    Calls Tryd.prog 84 #[.string s, .string t] w fun e w' => e = .returned (.bool (lessB s t)) ∧ ∃ m, w' = w.drewN m := by
  have HA := Lib.hid (bat_at s); have HB := Lib.hid (bat_at t)
  obtain ⟨R, hR⟩ : ∃ R, R = lessB s t := ⟨_, rfl⟩
  rw [← hR]
  have HR := Lib.hid hR
  clear hR
  obtain ⟨n, hn⟩ : ∃ n, n = s.size := ⟨_, rfl⟩
  obtain ⟨m, hm⟩ : ∃ m, m = t.size := ⟨_, rfl⟩
  have hni : (s.size : Int) = n := by omega
  have hmi : (t.size : Int) = m := by omega
  have hnb : n ≤ 100000 := by omega
  have hmb : m ≤ 100000 := by omega
  have HN := Lib.hid hn; have HM := Lib.hid hm
  clear hn hm hs ht
  go_enter Tryd.func84, Tryd.ntmps84
  go_wp2_with fail
  go_loopw [5] (fun iv wr => ∃ k : Nat, k ≤ n ∧ k ≤ m ∧ iv = .int .i64 k ∧ Hid (∀ j, j < k → bat s j = bat t j) ∧ Hid (∃ q, wr = w.drewN q)) (fun iv _ => n - (intOf iv).toNat)
  case atStart => exact ⟨0, by omega, by omega, rfl, fun j hj => by omega, 0, rfl⟩
  case round =>
    obtain ⟨k, hkn, hkm, rfl, heq, hkw⟩ := hrel
    have l0 : (0 : Int) ≤ (k : Int) := by omega
    by_cases hlt : k < n
    · have l1 : (k : Int) < (n : Int) := by omega
      by_cases hlt2 : k < m
      · have l2 : (k : Int) < (m : Int) := by omega
        have q1 : k < s.size := by have := HN.out; omega
        have q2 : k < t.size := by have := HM.out; omega
        have q1i : (k : Int) < (s.size : Int) := by omega
        have q2i : (k : Int) < (t.size : Int) := by omega
        have ea := HA.out k q1
        have eb := HB.out k q2
        obtain ⟨x, hx⟩ : ∃ x, x = bat s k := ⟨_, rfl⟩
        obtain ⟨y, hy⟩ : ∃ y, y = bat t k := ⟨_, rfl⟩
        rw [← hx] at ea
        rw [← hy] at eb
        have HX := Lib.hid hx; have HY := Lib.hid hy
        clear hx hy
        by_cases he : x = y
        · subst he
          have hb : ((x : Int) != (x : Int)) = false := by simp
          have heq2 : Hid (∀ j, j < k + 1 → bat s j = bat t j) := fun j hj => by
            by_cases e : j < k
            · exact heq.out j e
            · obtain rfl : j = k := by omega
              rw [← HX.out, ← HY.out]
          clear heq
          go_wp2_with fail
          go_quiet (fail)
          have HD2 : Hid (∃ q, wr.drewN nq = w.drewN q) := drew_then hkw.out nq
          generalize wr.drewN nq = wd at *
          go_wp2_with fail
          go_roundw
          case rel => first | exact ⟨k + 1, by omega, by omega, by go_num, heq2, HD2⟩ | ((repeat apply Exists.intro); exact ⟨⟨k + 1, by omega, by omega, by go_num, heq2, HD2⟩, rfl⟩) | ((repeat apply Exists.intro); exact ⟨by omega, by omega, by go_num, heq2, HD2⟩)
          case measure => simp [intOf]; omega
        · have hb : ((x : Int) != (y : Int)) = true := by simp; omega
          have hrf : R = decide (x < y) := by
            rw [HR.out, lessB_stop heq.out q1 q2 (by rw [← HX.out, ← HY.out]; exact he), ← HX.out, ← HY.out]
          clear he heq
          have HRF := Lib.hid hrf
          clear hrf
          go_wp2_with fail
          go_quiet (fail)
          have HD2 : Hid (∃ q, wr.drewN nq = w.drewN q) := drew_then hkw.out nq
          generalize wr.drewN nq = wd at *
          go_wp2_with fail
          go_quiet (fail)
          have HD3 : Hid (∃ q, wd.drewN nq = w.drewN q) := drew_then HD2.out nq
          generalize wd.drewN nq = wd2 at *
          go_wp2_with fail
          go_ret
          obtain rfl := HRF.out
          exact ⟨by simp, HD3.out⟩
      · have l2 : ¬ (k : Int) < (m : Int) := by omega
        have hrf : R = decide (n < m) := by
          rw [HR.out, lessB_end heq.out (by have := HN.out; omega) (by have := HM.out; omega) (Or.inr (by have := HM.out; omega)), ← HN.out, ← HM.out]
        clear heq
        go_wp2_with fail
        go_ret
        subst hrf
        exact ⟨rfl, hkw.out⟩
    · have l1 : ¬ (k : Int) < (n : Int) := by omega
      have hrf : R = decide (n < m) := by
        rw [HR.out, lessB_end heq.out (by have := HN.out; omega) (by have := HM.out; omega) (Or.inl (by have := HN.out; omega)), ← HN.out, ← HM.out]
      clear heq
      go_wp2_with fail
      go_ret
      subst hrf
      exact ⟨rfl, hkw.out⟩
end Go.Proofs.YtndedphkgkmckaaDoor
