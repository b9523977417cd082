/-
  Tables of names: Bytes; the chapter's second example (arbaclaw08.awake).
-/
import Derived.Test.YtneappinkfhjmaaDoorNamB
import Derived.Test.YtneappinkfhjmaaDoorStrW
namespace Go.Proofs.YtneappinkfhjmaaDoor
open Go.RowKit Go.Maps Go.WideMaps Go.ChangeMaps

/-- The encodings of some texts. -/
def encL : List ByteArray → List Nat
  | [] => []
  | x :: xs => (enc x.size ++ strB x) ++ encL xs
theorem encL_append : ∀ xs ys : List ByteArray, encL (xs ++ ys) = encL xs ++ encL ys
  | [], _ => rfl
  | x :: xs, ys => by rw [List.cons_append, encL, encL, encL_append xs ys]; simp only [List.append_assoc]
theorem encL_take (xs : List ByteArray) (k : Nat) (hk : k < xs.length) : encL (xs.take (k + 1)) = encL (xs.take k) ++ (enc (xs.getD k ⟨#[]⟩).size ++ strB (xs.getD k ⟨#[]⟩)) := by
  rw [List.take_succ_eq_append_getElem hk, encL_append]
  simp [encL, List.getD, hk]
theorem encL_len : ∀ xs : List ByteArray, (∀ x ∈ xs, x.size ≤ 12) → (encL xs).length ≤ 22 * xs.length
  | [], _ => by simp [encL]
  | x :: xs, h => by
    have ih := encL_len xs (fun y hy => h y (List.mem_cons_of_mem _ hy))
    have h1 := h x List.mem_cons_self
    have h2 := enc_len (v := x.size) (by omega)
    have h3 := strB_length x
    rw [encL, List.length_append, List.length_append, List.length_cons]; omega

/-- A writer of the call's own. -/
structure WK8 (w wr : World) (wb : Nat) (v : Value) (xs : List Nat) : Prop where
  wri : Wr wr wb v wb xs
  kept : Kept (fun _ => False) w wr
  base : w.heap.size ≤ wb
theorem WK8.step {w w1 w2 : World} {wb : Nat} {v v' : Value} {xs ys : List Nat} (h : WK8 w w1 wb v xs) (hw : Wr w2 wb v' wb ys) (hs : WStep w1 w2 wb v v') : WK8 w w2 wb v' ys := by
  have hb := h.base
  refine ⟨hw, h.kept.trans hs.kept (fun _ _ h => h) (fun i hi e => ?_), hb⟩
  rcases e with e | e
  · omega
  · have := (h.wri.own.lt _ e).1; omega

set_option maxRecDepth 100000 in
set_option maxHeartbeats 1600000 in
theorem tbytes_any (w : World) (g : Nat) (xs : List ByteArray) (v : Value) (m n : Nat) (D : DataW Unit) (h : TabAt w g xs v m n D) :
    Calls Tryd.prog 17 #[.pointer (some ⟨g, 0, none⟩)] w fun e w' => ∃ v', e = .returned v' ∧ Fresh w' w.heap.size v' (enc xs.length ++ encL xs) ∧ Kept (fun _ => False) w w' := by
  obtain ⟨a, c, hf, _, _⟩ := (strs_own h.row).form
  have H := Lib.hid h
  have hle := h.le
  have hS : Strs w v xs := strs_own h.row
  obtain ⟨N, hN⟩ : ∃ N, N = xs.length := ⟨_, rfl⟩
  have hel : (encL xs).length ≤ 22 * N := by rw [hN]; exact encL_len xs h.short
  have htk : ∀ k, (encL (xs.take k)).length ≤ 22 * N := fun k => by
    have h1 := encL_len (xs.take k) (fun x hx => h.short x (List.mem_of_mem_take hx))
    have h2 : (xs.take k).length ≤ N := by rw [hN, List.length_take]; omega
    omega
  rw [hf, ← hN] at hS
  rw [← hN] at hle hf ⊢
  have hw : IntKind.u64.wrap (N : Int) = (N : Int) := IntWalk.u64_in _ (by omega)
  have he := enc_len (v := N) (by omega)
  obtain ⟨ys, hys⟩ : ∃ ys, ys = enc N := ⟨_, rfl⟩
  have HU := fun (w : World) (wb : Nat) (v : Value) (h : Wr w wb v wb []) => uint_any N w wb v wb [] h (by simp) (by show N < 18446744073709551616; omega)
  rw [← hys] at he HU ⊢
  have HF := Lib.hid hf; have HN := Lib.hid hN; have HS := Lib.hid hS; have HTK := Lib.hid htk; have HHU := Lib.hid HU
  have c0 := h.c0
  rw [hf] at c0
  clear h hf hN hS htk HU hys
  go_enter Tryd.func17, Tryd.ntmps17
  go_wp2_with fail
  refine (newWriter_any w).mono ?_
  rintro e w1 ⟨rfl, hw1⟩
  have H1 : Hid (WK8 w w1 w.heap.size (.slice none 0 0) []) := ⟨by rw [hw1]; exact wr_new w w.heap.size (Nat.le_refl _), by rw [hw1]; exact Kept.alloc _ _ _, Nat.le_refl _⟩
  clear hw1
  obtain ⟨wb, hwb⟩ : ∃ wb, wb = w.heap.size := ⟨_, rfl⟩
  rw [← hwb] at H1 ⊢
  have hge : w.heap.size ≤ wb := by omega
  clear hwb
  have HT1 := Lib.hid (H.out.stay H1.out.kept)
  go_wp2_with fail
  refine (tlen_any w1 g xs v m n D HT1.out).mono ?_
  rw [← HN.out]
  rintro e w2 ⟨rfl, rfl⟩
  go_wp2_with fail
  refine (HHU.out w1 wb _ H1.out.wri).mono ?_
  rintro e w2 ⟨rfl, v2, hwr2, hs2⟩
  rw [List.nil_append] at hwr2
  have H2 : Hid (∃ u, WK8 w w2 wb u (ys ++ encL (xs.take 0))) := ⟨v2, by rw [List.take_zero, encL, List.append_nil]; exact H1.out.step hwr2 hs2⟩
  have hk2 := (H1.out.step hwr2 hs2).kept
  have c02 : w2.cell? ⟨g, 0, none⟩ = some (.slice a N c) := (hk2.cell (p := ⟨g, 0, none⟩) H.out.lt (fun h => h)).trans c0
  clear hwr2 hs2 hk2 H1 c0 HT1
  go_wp2_with fail
  clear c02 hw
  go_loopw [19] (fun iv wr => ∃ k : Nat, k ≤ N ∧ iv = .int .i64 k ∧ Hid (∃ u, WK8 w wr wb u (ys ++ encL (xs.take k)))) (fun iv _ => N - (intOf iv).toNat)
  case atStart => exact ⟨0, by omega, rfl, H2⟩
  case round =>
    obtain ⟨k, hk, rfl, hinv⟩ := hrel
    obtain ⟨u, hin⟩ := hinv.out
    have HIN := Lib.hid hin
    have hkl := HTK.out k
    clear hin hinv H2
    by_cases hlt : k < N
    · have l1 : (k : Int) < (N : Int) := by omega
      have l0 : (0 : Int) ≤ (k : Int) := by omega
      obtain ⟨gs, os, rfl, _, hcell⟩ := (HS.out.kept HIN.out.kept (fun _ _ h => h)).at (k := k) (by have := HN.out; omega)
      have het := encL_take xs k (by have := HN.out; omega)
      have hsh : (xs.getD k ⟨#[]⟩).size ≤ 12 := by
        have hk2 : k < xs.length := by have := HN.out; omega
        have : xs.getD k ⟨#[]⟩ ∈ xs := by simp [List.getD, hk2]
        exact H.out.short _ this
      have HET := Lib.hid het
      clear het
      generalize xs.getD k ⟨#[]⟩ = x at hcell HET hsh
      go_wp2_with fail
      refine (string_any x wr wb u wb _ HIN.out.wri (by rw [List.length_append]; omega) (by omega) (by have := HIN.out.wri.lt; omega)).mono ?_
      rintro e w3 ⟨rfl, v3, hwr3, hs3⟩
      have H3 : Hid (∃ u, WK8 w w3 wb u (ys ++ encL (xs.take (k + 1)))) := ⟨v3, by rw [HET.out, ← List.append_assoc]; exact HIN.out.step hwr3 hs3⟩
      clear hwr3 hs3 HIN
      go_wp2_with fail
      go_roundw
      case rel => exact ⟨k + 1, by omega, by go_num, H3⟩
      case measure => simp [intOf]; omega
    · obtain rfl : k = N := by omega
      have hall : xs.take k = xs := List.take_of_length_le (by have := HN.out; omega)
      rw [hall] at HIN hkl
      clear hall
      go_wp2_with fail
      refine (out_any wr wb u _ HIN.out.wri.reads (by rw [List.length_append]; omega) HIN.out.wri.cell).mono ?_
      rintro e w4 ⟨v4, rfl, hf4, hk4⟩
      have HF4 : Hid (Fresh w4 w.heap.size v4 (ys ++ encL xs)) := ⟨Go.Joins.ownsRow_le hf4.own HIN.out.kept.size, fun k hk => Nat.le_trans HIN.out.kept.size (hf4.block k hk)⟩
      have HK4 := Lib.hid (HIN.out.kept.then hk4)
      clear hf4 hk4
      go_wp2_with fail
      go_ret
      exact ⟨_, rfl, HF4.out, HK4.out⟩

theorem memS_data (s : ByteArray) (xs : List ByteArray) : memS s xs = xs.any fun x => s.data.toList == x.data.toList := by
  unfold memS
  congr 1
  funext x
  rw [ByteArray.toList_eq, ByteArray.toList_eq]

def sClerk : ByteArray := ⟨#[99, 108, 101, 114, 107]⟩
def sAuditor : ByteArray := ⟨#[97, 117, 100, 105, 116, 111, 114]⟩
def sX : ByteArray := ⟨#[120]⟩
theorem v_clerk : validS sClerk = true := by unfold validS; rw [memS_data]; decide +kernel
theorem v_auditor : validS sAuditor = true := by unfold validS; rw [memS_data]; decide +kernel
theorem v_x : validS sX = true := by unfold validS; rw [memS_data]; decide +kernel
theorem n_ac : sAuditor ≠ sClerk := fun h => by
  have := congrArg (fun s : ByteArray => s.data.toList) h
  revert this; decide +kernel
theorem n_xc : sX ≠ sClerk := fun h => by
  have := congrArg (fun s : ByteArray => s.data.toList) h
  revert this; decide +kernel
theorem n_xa : sX ≠ sAuditor := fun h => by
  have := congrArg (fun s : ByteArray => s.data.toList) h
  revert this; decide +kernel

theorem r_1 : refS [] sClerk 9 = 0 := by unfold refS; rw [v_clerk]; simp [posS]
theorem r_2 : refS [sClerk] sAuditor 9 = 0 := by unfold refS; rw [v_auditor]; simp [posS, str_eq, n_ac]
theorem r_3 : refS [sClerk, sAuditor] sClerk 9 = 5 := by unfold refS; rw [v_clerk]; simp [posS]
theorem r_4 : refS [sClerk, sAuditor] sX 2 = 14 := by unfold refS; rw [v_x]; simp [posS, str_eq, n_xc, n_xa]

theorem enc_small (n : Nat) (h : n < 128) : enc n = [n] := by
  rw [enc, show n / 128 = 0 by omega, encHi_zero, Nat.mod_eq_of_lt h]; rfl
theorem bytes_ex : enc ([sClerk, sAuditor] : List ByteArray).length ++ encL [sClerk, sAuditor] = [2, 5, 99, 108, 101, 114, 107, 7, 97, 117, 100, 105, 116, 111, 114] := by
  have h1 : sClerk.size = 5 := rfl
  have h2 : sAuditor.size = 7 := rfl
  have h3 : strB sClerk = [99, 108, 101, 114, 107] := by decide +kernel
  have h4 : strB sAuditor = [97, 117, 100, 105, 116, 111, 114] := by decide +kernel
  simp only [encL, h1, h2, h3, h4, List.length_cons, List.length_nil]
  rw [enc_small 2 (by omega), enc_small 5 (by omega), enc_small 7 (by omega)]
  rfl
theorem str_ex : strOfNums (([2, 5, 99, 108, 101, 114, 107, 7, 97, 117, 100, 105, 116, 111, 114] : List Nat).map fun n : Nat => (n : Int)) = ⟨#[2, 5, 99, 108, 101, 114, 107, 7, 97, 117, 100, 105, 116, 111, 114]⟩ := by
  apply ByteArray.ext
  decide +kernel

set_option maxRecDepth 100000 in
set_option maxHeartbeats 1600000 in
theorem awake8_any (w : World) : Calls Tryd.prog 12 #[] w fun e w' => e = .returned (.bool true) ∧ Kept (fun _ => False) w w' := by
  have A1 := fun (w : World) (g : Nat) (v : Value) (m n : Nat) (D : DataW Unit) (h : TabAt w g [] v m n D) => add_ok sClerk 9 w g [] v m n D h r_1
  have A2 := fun (w : World) (g : Nat) (v : Value) (m n : Nat) (D : DataW Unit) (h : TabAt w g [sClerk] v m n D) => add_ok sAuditor 9 w g [sClerk] v m n D h r_2
  have A3 := fun (w : World) (g : Nat) (v : Value) (m n : Nat) (D : DataW Unit) (h : TabAt w g [sClerk, sAuditor] v m n D) => add_no sClerk 9 w g [sClerk, sAuditor] v m n D h (by show 5 ≤ maxLen; unfold maxLen; omega) (by rw [r_3]; decide)
  have A4 := fun (w : World) (g : Nat) (v : Value) (m n : Nat) (D : DataW Unit) (h : TabAt w g [sClerk, sAuditor] v m n D) => add_no sX 2 w g [sClerk, sAuditor] v m n D h (by show 1 ≤ maxLen; unfold maxLen; omega) (by rw [r_4]; decide)
  simp only [r_3] at A3
  simp only [r_4] at A4
  have A5 := fun (w : World) (g : Nat) (v : Value) (m n : Nat) (D : DataW Unit) (h : TabAt w g [sClerk, sAuditor] v m n D) => tbytes_any w g [sClerk, sAuditor] v m n D h
  simp only [bytes_ex] at A5
  have H1 := Lib.hid A1; have H2 := Lib.hid A2; have H3 := Lib.hid A3; have H4 := Lib.hid A4; have H5 := Lib.hid A5
  clear A1 A2 A3 A4 A5
  go_enter Tryd.func12, Tryd.ntmps12
  go_wp2_with fail
  refine (tnew_any w).mono ?_
  rintro e w1 ⟨rfl, ht1, hk1, _⟩
  have K1 := Lib.hid hk1
  have T1 := Lib.hid ht1
  clear hk1 ht1
  go_wp2_with fail
  refine (H1.out w1 _ _ _ _ _ T1.out).mono ?_
  rintro e w2 ⟨g2, rfl, ⟨v2, m2, n2, D2, ht2, _, _⟩, _, hk2⟩
  have K2 := Lib.hid (K1.out.then hk2)
  have T2 := Lib.hid ht2
  clear hk2 ht2 T1
  go_wp2_with fail
  refine (H2.out w2 _ _ _ _ _ T2.out).mono ?_
  rintro e w3 ⟨g3, rfl, ⟨v3, m3, n3, D3, ht3, _, _⟩, _, hk3⟩
  have K3 := Lib.hid (K2.out.then hk3)
  have T3 := Lib.hid ht3
  clear hk3 ht3 T2
  go_wp2_with fail
  refine (H3.out w3 _ _ _ _ _ T3.out).mono ?_
  rintro e w4 ⟨rfl, hk4⟩
  have K4 := Lib.hid (K3.out.then hk4)
  have T4 := Lib.hid (T3.out.stay hk4)
  clear hk4 T3
  go_wp2_with fail
  refine (H4.out w4 _ _ _ _ _ T4.out).mono ?_
  rintro e w5 ⟨rfl, hk5⟩
  have K5 := Lib.hid (K4.out.then hk5)
  have T5 := Lib.hid (T4.out.stay hk5)
  clear hk5 T4
  go_wp2_with fail
  refine (H5.out w5 _ _ _ _ _ T5.out).mono ?_
  rintro e w6 ⟨v6, rfl, hf6, hk6⟩
  have K6 := Lib.hid (K5.out.then hk6)
  have hs6 := reads_str hf6.reads
  rw [str_ex] at hs6
  clear hf6 hk6 T5
  go_wp2_with fail
  go_ret
  exact ⟨rfl, K6.out⟩
end Go.Proofs.YtneappinkfhjmaaDoor
