/-
  Tokens: Join, the program's and the reference's.
-/
import Derived.Test.YtoekdcobnmkpaaaGreatDoorTkK
import Derived.Test.YtoekdcobnmkpaaaGreatDoorStO
import Derived.Shelf.Strings.OnBuilder
import Derived.Deep.RegionHeld3
namespace Go.Proofs.YtoekdcobnmkpaaaGreatDoor
open Go.RowKit Go.Shelf
set_option linter.unusedSimpArgs false
set_option linter.unusedVariables false
set_option maxRecDepth 100000

def laysJoin_ren : Go.Shelf.Ren := ⟨fun | 156 => 41 | 165 => 53 | 166 => 55 | 169 => 56 | 240 => 72 | 241 => 73 | 276 => 85 | 277 => 86 | n => n, fun | 0 => 0 | 3 => 3 | 4 => 4 | 5 => 5 | 9 => 9 | 20 => 20 | 31 => 77 | 37 => 64 | 70 => 87 | 72 => 89 | 75 => 92 | 76 => 93 | 80 => 32 | 127 => 103 | 164 => 116 | n => n, fun | n => n⟩
theorem laysJoin : Go.Proofs.Lays.n156 Tryz.prog laysJoin_ren := {
  mixed := by kernel_rfl
  f156 := Tryz.func41.trans (congrArg some (by kernel_rfl))
  f165 := Tryz.func53.trans (congrArg some (by kernel_rfl))
  f166 := Tryz.func55.trans (congrArg some (by kernel_rfl))
  f169 := Tryz.func56.trans (congrArg some (by kernel_rfl))
  f240 := Tryz.func72.trans (congrArg some (by kernel_rfl))
  f241 := Tryz.func73.trans (congrArg some (by kernel_rfl))
  f276 := Tryz.func85.trans (congrArg some (by kernel_rfl))
  f277 := Tryz.func86.trans (congrArg some (by kernel_rfl))
  t0 := Tryz.underlying0
  a0 := Tryz.isAgg0
  z0 := Tryz.sizeOf0
  v0 := Tryz.zeroValue0
  t3 := Tryz.underlying3
  a3 := Tryz.isAgg3
  z3 := Tryz.sizeOf3
  v3 := Tryz.zeroValue3
  t4 := Tryz.underlying4
  a4 := Tryz.isAgg4
  z4 := Tryz.sizeOf4
  v4 := Tryz.zeroValue4
  t9 := Tryz.underlying9
  a9 := Tryz.isAgg9
  z9 := Tryz.sizeOf9
  v9 := Tryz.zeroValue9
  t20 := Tryz.underlying20
  a20 := Tryz.isAgg20
  z20 := Tryz.sizeOf20
  v20 := Tryz.zeroValue20
  t31 := Tryz.underlying77
  a31 := Tryz.isAgg77
  z31 := Tryz.sizeOf77
  v31 := Tryz.zeroValue77
  t37 := Tryz.underlying64
  a37 := Tryz.isAgg64
  z37 := Tryz.sizeOf64
  v37 := Tryz.zeroValue64
  t70 := Tryz.underlying87
  a70 := Tryz.isAgg87
  z70 := Tryz.sizeOf87
  v70 := Tryz.zeroValue87
  t72 := Tryz.underlying89
  a72 := Tryz.isAgg89
  z72 := Tryz.sizeOf89
  v72 := Tryz.zeroValue89
  t75 := Tryz.underlying92
  a75 := Tryz.isAgg92
  z75 := Tryz.sizeOf92
  v75 := Tryz.zeroValue92
  t76 := Tryz.underlying93
  a76 := Tryz.isAgg93
  z76 := Tryz.sizeOf93
  v76 := Tryz.zeroValue93
  t127 := Tryz.underlying103
  a127 := Tryz.isAgg103
  z127 := Tryz.sizeOf103
  v127 := Tryz.zeroValue103
  t164 := Tryz.underlying116
  a164 := Tryz.isAgg116
  z164 := Tryz.sizeOf116
  v164 := Tryz.zeroValue116 }

theorem laysJoinX : Go.Proofs.Builder.Extra Tryz.prog laysJoin_ren := {
  sizeBuilder := by kernel_rfl
  liesBuilder := by kernel_rfl
  t5 := Tryz.underlying5
  a5 := Tryz.isAgg5
  z5 := Tryz.sizeOf5
  v5 := Tryz.zeroValue5
  infoByte := by kernel_rfl
  cellsByte := by kernel_rfl
  sizeByte := by kernel_rfl
  neB5 := by decide }

/-- Texts, joined by blanks. -/
def joinL (xs : List ByteArray) : List UInt8 := Lib.join (xs.map (·.data.toList)) [32]
def joinB (xs : List ByteArray) : ByteArray := ⟨(joinL xs).toArray⟩
theorem joinB_size (xs : List ByteArray) : (joinB xs).size = (joinL xs).length := by simp [joinB, ByteArray.size]
/-- The texts of tokens other than the end. -/
def textsS (l : List Tok) : List ByteArray := (l.filter fun x => decide (x.k ≠ 0)).map (·.t)
theorem textsS_step {l : List Tok} {k : Nat} (hk : k < l.length) : textsS (l.take (k + 1)) = if (l.getD k tok0).k = 0 then textsS (l.take k) else textsS (l.take k) ++ [(l.getD k tok0).t] := by
  have e : l.take (k + 1) = l.take k ++ [l.getD k tok0] := by
    rw [List.take_succ_eq_append_getElem hk]
    simp [List.getD, hk]
  rw [e]
  generalize l.getD k tok0 = x
  unfold textsS
  rw [List.filter_append, List.map_append]
  by_cases h : x.k = 0
  · rw [if_pos h]; simp [h, List.filter]
  · rw [if_neg h]; simp [h, List.filter]
theorem textsS_len (l : List Tok) : (textsS l).length ≤ l.length := by
  unfold textsS
  rw [List.length_map]
  exact List.length_filter_le _ _

theorem sjoinT_any (v : Value) (xs : List ByteArray) (w : World) (h : Strs w v xs) (hx : xs.length ≤ 1000000) (hl : (joinL xs).length ≤ 100000000) :
    Calls Tryz.prog 41 #[v, .string ⟨#[32]⟩] w fun e w' => e = .returned (.string (joinB xs)) ∧ Kept (fun _ => False) w w' := by
  rcases h with ⟨rfl, rfl⟩ | ⟨g, off, cap, rfl, h1, h2, h3, h4⟩
  · exact (Any.strings_Join_none (P := Tryz.prog) (ρ := laysJoin_ren) laysJoin laysJoinX none 0 ⟨#[32]⟩ w).mono fun e w' ⟨h5, h6⟩ => ⟨h5, by rw [h6]; exact Kept.refl _ _⟩
  · have hS := Any.strings_Join (P := Tryz.prog) (ρ := laysJoin_ren) laysJoin laysJoinX g off cap xs ⟨#[32]⟩ w (fun j x hj => by
      have hjl : j < xs.length := (List.getElem?_eq_some_iff.1 hj).1
      rw [h4 j hjl, List.getD_eq_getElem?_getD, hj]
      rfl) h3 (by omega) h1 (by
      have e : (⟨#[32]⟩ : ByteArray).data.toList = [32] := rfl
      rw [e]
      unfold joinL at hl
      omega)
    exact hS.mono fun e w' ⟨h5, h6⟩ => ⟨h5, Kept.ofBelow _ h6⟩

set_option maxHeartbeats 3200000 in
theorem tjoin_any (v : Value) (l : List Tok) (w : World) (h : Toks .u8 w v l) (hl : l.length ≤ 100000) (hj : (joinL (textsS l)).length ≤ 100000000) :
    Calls Tryz.prog 17 #[v] w fun e w' => e = .returned (.string (joinB (textsS l))) ∧ Kept (fun _ => False) w w' := by
  obtain ⟨a, c, rfl, _, _⟩ := h.form
  have HS := Lib.hid h
  obtain ⟨N, hN⟩ : ∃ N, N = l.length := ⟨_, rfl⟩
  rw [← hN] at HS hl ⊢
  have HN := Lib.hid hN
  obtain ⟨J, hJ⟩ : ∃ J, J = joinB (textsS l) := ⟨_, rfl⟩
  rw [← hJ]
  have HJ := Lib.hid hJ
  have HJL := Lib.hid hj
  clear h hN hJ hj
  go_enter Tryz.func17, Tryz.ntmps17
  go_wp2_with fail
  go_loopw [3, 8] (fun tv iv wr => ∃ (k n : Nat) (aa : Option Addr) (cc : Nat), k ≤ N ∧ iv = .int .i64 k ∧ tv = .slice aa n cc ∧ Hid (OwnS wr w.heap.size (.slice aa n cc) (textsS (l.take k))) ∧ Hid (Kept (fun _ => False) w wr)) (fun _ iv _ => N - (intOf iv).toNat)
  case atStart => exact ⟨0, 0, none, 0, by omega, rfl, rfl, OwnS.nil _ _, Kept.refl _ _⟩
  case round =>
    obtain ⟨k, n, aa, cc, hk, rfl, rfl, ho, hkw⟩ := hrel
    have l2 : (0 : Int) ≤ (k : Int) := by omega
    by_cases hlt : k < N
    · have l3 : (k : Int) < (N : Int) := by omega
      obtain ⟨g, off, rfl, hgl, c0, c1, c2, c3⟩ := (HS.out.kept hkw.out (fun _ _ h => h)).at (k := k) (by have := HN.out; omega)
      have hst := textsS_step (l := l) (k := k) (by have := HN.out; omega)
      have hal := textsS_len (l.take k)
      rw [List.length_take] at hal
      obtain ⟨x, hx⟩ : ∃ x, x = l.getD k tok0 := ⟨_, rfl⟩
      rw [← hx] at hst c0 c1 c2 c3
      obtain ⟨kk, t, nn, ii⟩ := x
      simp only at hst c0 c1 c2 c3
      generalize textsS (l.take k) = acc at ho hst hal
      generalize hT : textsS (l.take (k + 1)) = acc2 at hst
      have HT := Lib.hid hT
      have HAL : Hid (acc.length ≤ 100000) := by show _ ≤ _; omega
      have HSZ := Lib.hid hkw.out.size
      clear hx hT hal
      by_cases hkk : kk = 0
      · rw [if_pos hkk] at hst
        subst hkk
        have HR : Hid (OwnS (wr.alloc (.cells #[.int .u8 0, .string t, .int .i64 nn, .int .i64 ii] 42)) w.heap.size (.slice aa n cc) (textsS (l.take (k + 1)))) := by
          rw [HT.out, hst]; exact ho.out.alloc _
        have HK : Hid (Kept (fun _ => False) w (wr.alloc (.cells #[.int .u8 0, .string t, .int .i64 nn, .int .i64 ii] 42))) := hkw.out.then (Kept.alloc _ _ _)
        clear hst HT
        go_wp2_with fail
        go_roundw
        case rel => first | exact ⟨k + 1, n, aa, cc, by omega, by go_num, rfl, HR, HK⟩ | ((repeat apply Exists.intro); exact ⟨⟨k + 1, n, aa, cc, by omega, by go_num, rfl, HR, HK⟩, rfl⟩)
        case measure => simp [intOf]; omega
      · rw [if_neg hkk] at hst
        have hb0 : ((kk : Int) == 0) = false := beq_eq_false_iff_ne.2 (by omega)
        have HST := Lib.hid hst
        clear hst
        go_wp2_with (at_builtin; refine wpList_pushS (by rfl) _ _ rfl rfl w.heap.size _ acc (wr.heap.size + 1) t rfl (by first | rfl | (go_simp; done)) ((ho.out.alloc _).alloc _) (by go_simp) (by have := HAL.out; omega) (by have := HSZ.out; simp; omega) ?_)
        intro a' c' w4 hown hk4
        have HR : Hid (OwnS w4 w.heap.size (.slice a' (acc.length + 1) c') (textsS (l.take (k + 1)))) := by
          rw [HT.out, HST.out]; exact hown
        have HK4 : Hid (Kept (fun _ => False) w w4) := ((hkw.out.then (Kept.alloc _ _ _)).then (Kept.alloc _ _ _)).trans hk4 (fun _ _ h => h) (fun i hi e => by have := (ho.out.bound i e).1; omega)
        clear hown hk4 HST HT ho
        go_wp2_with fail
        go_roundw
        case rel => first | exact ⟨k + 1, acc.length + 1, a', c', by omega, by go_num, rfl, HR, HK4⟩ | ((repeat apply Exists.intro); exact ⟨⟨k + 1, acc.length + 1, a', c', by omega, by go_num, rfl, HR, HK4⟩, rfl⟩)
        case measure => simp [intOf]; omega
    · obtain rfl : k = N := by omega
      have hst : Strs wr (.slice aa n cc) (textsS l) := by
        have h2 := ho.out
        rw [HN.out, List.take_length] at h2
        exact Strs.ofOwn h2
      have HJC := Lib.hid (sjoinT_any _ _ wr hst (by have := textsS_len l; have := HN.out; omega) HJL.out)
      rw [← HJ.out] at HJC
      clear hst ho HJL
      go_wp2_with fail
      refine HJC.out.mono ?_
      rintro e w2 ⟨rfl, k2⟩
      have K2 := Lib.hid (hkw.out.then k2)
      clear k2
      go_wp2_with fail
      go_ret
      exact ⟨rfl, K2.out⟩

/-! The reference's Join. -/
theorem joinL_snoc (xs : List ByteArray) (y : ByteArray) : joinL (xs ++ [y]) = if xs = [] then y.data.toList else joinL xs ++ 32 :: y.data.toList := by
  unfold joinL
  cases xs with
  | nil => simp [Lib.join_one]
  | cons x t =>
    rw [if_neg (by simp), List.cons_append, List.map_cons, List.map_cons, Lib.join_cons, Lib.join_cons]
    unfold Lib.joinTail
    simp
theorem joinL_mono : ∀ (xs ys : List ByteArray), (joinL xs).length ≤ (joinL (xs ++ ys)).length := by
  intro xs ys
  cases xs with
  | nil => simp [joinL, Lib.join_nil]
  | cons x t =>
    unfold joinL
    rw [List.cons_append, List.map_cons, List.map_cons, Lib.join_cons, Lib.join_cons]
    unfold Lib.joinTail
    simp
theorem textsS_take (l : List Tok) (k : Nat) : ∃ ys, textsS l = textsS (l.take k) ++ ys := by
  refine ⟨textsS (l.drop k), ?_⟩
  conv => lhs; rw [← List.take_append_drop k l]
  unfold textsS
  rw [List.filter_append, List.map_append]
theorem joinB_one {xs : List ByteArray} {y : ByteArray} (h : xs = []) : joinB (xs ++ [y]) = y := by
  apply str_extT
  unfold joinB
  rw [joinL_snoc, if_pos h]
theorem joinB_more {xs : List ByteArray} {y : ByteArray} (h : xs ≠ []) : joinB (xs ++ [y]) = (joinB xs ++ ⟨#[32]⟩) ++ y := by
  apply str_extT
  have e : ((joinB xs ++ ⟨#[32]⟩) ++ y : ByteArray).data.toList = ((joinB xs).data.toList ++ [32]) ++ y.data.toList := by
    rw [ByteArray.data_append, Array.toList_append, ByteArray.data_append, Array.toList_append]
  rw [e]
  unfold joinB
  rw [joinL_snoc, if_neg h]
  simp
theorem joinB_first {y : ByteArray} : (joinB []) ++ y = y := by
  apply str_extT
  rw [ByteArray.data_append, Array.toList_append]
  simp [joinB, joinL, Lib.join_nil]

end Go.Proofs.YtoekdcobnmkpaaaGreatDoor
