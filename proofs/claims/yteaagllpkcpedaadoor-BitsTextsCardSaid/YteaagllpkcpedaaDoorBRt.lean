/-
  arbacref01: Digits, Text.
-/
import Derived.Test.YteaagllpkcpedaaDoorBRx
import Derived.Test.YteaagllpkcpedaaDoorBRn
import Derived.Laws.Concat
namespace Go.Proofs.YteaagllpkcpedaaDoor
open Go.RowKit

/-- A string of characters. -/
def strL (l : List UInt8) : ByteArray := ⟨l.toArray⟩
theorem strL_append (a b : List UInt8) : strL a ++ strL b = strL (a ++ b) := by
  refine ByteArray.ext ?_
  simp [strL]
theorem strL_size (a : List UInt8) : (strL a).size = a.length := by simp [strL, ByteArray.size]
theorem decDigits_len6 (n : Nat) (h : n < 1000000) : (Lib.decDigits n).length ≤ 6 := by
  rw [Lib.decDigits]; split
  · simp
  · rw [Lib.decDigits]; split
    · simp
    · have := decDigits_len4 (n := n / 10 / 10) (by omega)
      simp; omega
theorem digit_cut : ∀ n : Fin 10, ByteArray.extract ⟨#[48, 49, 50, 51, 52, 53, 54, 55, 56, 57]⟩ n.val (n.val + 1) = strL [UInt8.ofNat (48 + n.val)] := by decide +kernel

set_option maxRecDepth 100000 in
set_option maxHeartbeats 1600000 in
theorem digits_low (n : Nat) (h : n < 10) (w : World) :
    Calls Tryd.prog 52 #[.int .i64 n] w fun e w' => e = .returned (.string (strL (Lib.decDigits n))) ∧ w = w' := by
  have h1 : (n : Int) < 10 := by omega
  have h2 : (0 : Int) ≤ n := by omega
  have h3 : IntKind.i64.wrap ((n : Int) + 1) = (n : Int) + 1 := IntWalk.i64_in _ (by omega)
  have h4 : (n : Int) + 1 ≤ 10 := by omega
  have h5 : (n : Int) ≤ (n : Int) + 1 := by omega
  have HD : Hid (ByteArray.extract ⟨#[48, 49, 50, 51, 52, 53, 54, 55, 56, 57]⟩ n (n + 1) = strL (Lib.decDigits n)) := by
    show _ = _
    rw [Lib.decDigits_one h]
    exact digit_cut ⟨n, h⟩
  have h6 : ((n : Int) + 1).toNat = n + 1 := by omega
  clear h
  go_enter Tryd.func52, Tryd.ntmps52
  go_wp2_with fail
  go_ret
  refine ⟨?_, rfl⟩
  rw [← HD.out]
  simp

set_option maxRecDepth 100000 in
set_option maxHeartbeats 1600000 in
theorem digits_any : ∀ (d n : Nat), n ≤ d → d < 1000000 → ∀ w, 
    Calls Tryd.prog 52 #[.int .i64 n] w fun e w' => e = .returned (.string (strL (Lib.decDigits n))) ∧ w = w' := by
  intro d
  induction d with
  | zero => intro n h _ w; exact digits_low n (by omega) w
  | succ d ih =>
    intro n h hd w
    by_cases h10 : n < 10
    · exact digits_low n h10 w
    · have HI := Lib.hid (fun w => ih (n / 10) (by omega) (by omega) w)
      have HJ := Lib.hid (fun w => digits_low (n % 10) (by omega) w)
      have HD : Hid (strL (Lib.decDigits (n / 10)) ++ strL (Lib.decDigits (n % 10)) = strL (Lib.decDigits n)) := by
        show _ = _
        rw [strL_append, Lib.decDigits_one (by omega : n % 10 < 10)]
        congr 1
        rw [Lib.decDigits.eq_def n, dif_neg h10]
      have l1 := decDigits_len6 (n / 10) (by omega)
      have l2 := decDigits_len6 (n % 10) (by omega)
      obtain ⟨A, hA⟩ : ∃ A, A = strL (Lib.decDigits (n / 10)) := ⟨_, rfl⟩
      obtain ⟨B, hB⟩ : ∃ B, B = strL (Lib.decDigits (n % 10)) := ⟨_, rfl⟩
      rw [← hA] at HI HD; rw [← hB] at HJ HD
      have hsz : ¬ 9223372036854775807 < A.size + B.size := by rw [hA, hB, strL_size, strL_size]; omega
      clear hA hB l1 l2
      obtain ⟨q, hq⟩ : ∃ q, q = n / 10 := ⟨_, rfl⟩
      obtain ⟨r, hr⟩ : ∃ r, r = n % 10 := ⟨_, rfl⟩
      rw [← hq] at HI
      rw [← hr] at HJ
      have h1 : ¬ (n : Int) < 10 := by omega
      have h2 : (n : Int).tdiv 10 = (q : Int) ∧ (n : Int) / 10 = (q : Int) := ⟨by rw [Int.tdiv_eq_ediv_of_nonneg (by omega)]; omega, by omega⟩
      have h3 : (n : Int).tmod 10 = (r : Int) ∧ (n : Int) % 10 = (r : Int) := ⟨by rw [Int.tmod_eq_emod_of_nonneg (by omega)]; omega, by omega⟩
      have h4 : IntKind.i64.wrap (q : Int) = (q : Int) ∧ IntKind.i64.wrap (r : Int) = (r : Int) := ⟨IntWalk.i64_in _ (by omega), IntWalk.i64_in _ (by omega)⟩
      clear ih hq hr h10 h hd
      obtain ⟨h21, h22⟩ := h2
      obtain ⟨h31, h32⟩ := h3
      obtain ⟨h41, h42⟩ := h4
      go_enter Tryd.func52, Tryd.ntmps52
      go_wp2_with fail
      refine (HI.out _).mono ?_
      rintro e w1 ⟨rfl, rfl⟩
      go_wp2_with fail
      refine (HJ.out _).mono ?_
      rintro e w2 ⟨rfl, rfl⟩
      go_wp2_with fail
      go_ret
      exact ⟨by rw [← HD.out]; rfl, rfl⟩

set_option maxRecDepth 100000 in
set_option maxHeartbeats 1600000 in
theorem rtext_any (w : World) (v : Value) (xs : List Int) (h : Ints w v xs) (hl : xs.length ≤ 5000) (hx : ∀ x ∈ xs, 0 ≤ x ∧ x < 10000) :
    Calls Tryd.prog 26 #[v] w fun e w' => e = .returned (.string (strL (txt xs ++ [125]))) ∧ Kept (fun _ => False) w w' := by
  obtain ⟨a, c, rfl⟩ := h.form
  have HC := Lib.hid h.at
  have HX := Lib.hid hx
  have hlb := h.len
  have HL : Hid (∀ k, (txt (xs.take k)).length ≤ 30000) := fun k => by
    have h1 := txt_le (xs.take k) (fun x hx' => hx x (List.mem_of_mem_take hx'))
    rw [List.length_take] at h1; omega
  clear h hx hl
  go_enter Tryd.func26, Tryd.ntmps26
  go_wp2_with fail
  go_loopw [3, 8] (fun ov iv wr => ∃ (k : Nat), k ≤ xs.length ∧ iv = .int .i64 k ∧ ov = .string (strL (txt (xs.take k))) ∧ Hid (Kept (fun _ => False) w wr)) (fun _ iv _ => xs.length - (intOf iv).toNat)
  case atStart => exact ⟨0, Nat.zero_le _, rfl, rfl, Kept.refl _ _⟩
  case round =>
    obtain ⟨k, hk, rfl, rfl, hkw⟩ := hrel
    by_cases hlt : k < xs.length
    · have hlt' : (k : Int) < (xs.length : Int) := by omega
      obtain ⟨g, off, rfl, hck⟩ := HC.out k hlt
      obtain ⟨x, hx⟩ : ∃ x, x = xs.getD k 0 := ⟨_, rfl⟩
      have hstep := txt_take xs k hlt (fun x hx => (HX.out x hx).1)
      rw [← hx] at hck hstep
      have hxm : x ∈ xs := by
        rw [hx, List.getD_eq_getElem?_getD, List.getElem?_eq_getElem hlt]
        exact List.getElem_mem _
      have hx0 := HX.out x hxm
      obtain ⟨m, rfl⟩ := Int.eq_ofNat_of_zero_le hx0.1
      have HDG := Lib.hid (fun w => digits_any m m (Nat.le_refl _) (by omega) w)
      rw [Lib.itoa_nonneg] at hstep
      have HS := Lib.hid hstep
      have ck := hck wr hkw.out
      have l2 := decDigits_len6 m (by omega)
      clear hx hstep hck hxm hx0
      have l1 := HL.out k
      obtain ⟨A, hA⟩ : ∃ A, A = strL (txt (xs.take k)) := ⟨_, rfl⟩
      obtain ⟨B, hB⟩ : ∃ B, B = strL (Lib.decDigits m) := ⟨_, rfl⟩
      rw [← hB] at HDG
      have hs1 : ¬ 9223372036854775807 < A.size + 1 := by rw [hA, strL_size]; omega
      have hs2 : ¬ 9223372036854775807 < A.size + B.size := by rw [hA, hB, strL_size, strL_size]; omega
      have hs3 : ¬ 9223372036854775807 < A.size + 1 + B.size := by rw [hA, hB, strL_size, strL_size]; omega
      have HA := Lib.hid hA; have HB := Lib.hid hB
      rw [← hA]
      clear hA hB l1 l2
      by_cases h0 : k = 0
      · have HS2 : Hid (A ++ B = strL (txt (xs.take (k + 1)))) := by show _ = _; rw [HA.out, HB.out, HS.out, if_pos h0, strL_append]
        have h00 : ¬ (0 : Int) < (k : Int) := by omega
        have h01 : ¬ 0 < k := by omega
        clear HS h0
        go_wp2_with fail
        refine (HDG.out _).mono ?_
        rintro e w2 ⟨rfl, rfl⟩
        go_wp2_with fail
        go_roundw
        case rel => exact ⟨k + 1, by omega, by go_num, by rw [HS2.out], hkw⟩
        case measure => simp [intOf]; omega
      · have HS2 : Hid (A ++ strL [32] ++ B = strL (txt (xs.take (k + 1)))) := by show _ = _; rw [HA.out, HB.out, HS.out, if_neg h0, strL_append, strL_append]
        have h00 : (0 : Int) < (k : Int) := by omega
        have h01 : 0 < k := by omega
        clear HS h0
        go_wp2_with fail
        refine (HDG.out _).mono ?_
        rintro e w2 ⟨rfl, rfl⟩
        go_wp2_with fail
        go_roundw
        case rel => exact ⟨k + 1, by omega, by go_num, by rw [← HS2.out]; rfl, hkw⟩
        case measure => simp [intOf]; omega
    · have hkx : k = xs.length := by omega
      have hnl : ¬ (k : Int) < (xs.length : Int) := by omega
      have l1 := HL.out k
      obtain ⟨A, hA⟩ : ∃ A, A = strL (txt (xs.take k)) := ⟨_, rfl⟩
      have hs1 : ¬ 9223372036854775807 < A.size + 1 := by rw [hA, strL_size]; omega
      have HT : Hid (A ++ strL [125] = strL (txt xs ++ [125])) := by show _ = _; rw [hA, hkx, List.take_length, strL_append]
      rw [← hA]
      clear hkx hA l1
      go_wp2_with fail
      go_ret
      exact ⟨by rw [← HT.out]; rfl, hkw.out⟩
end Go.Proofs.YteaagllpkcpedaaDoor
