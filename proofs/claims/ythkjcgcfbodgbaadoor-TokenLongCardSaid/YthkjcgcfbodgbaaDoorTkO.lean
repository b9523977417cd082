/-
  Tokens: Join, the program's and the reference's.
-/
import Derived.Test.YthkjcgcfbodgbaaDoorTkK
import Derived.Test.YthkjcgcfbodgbaaDoorStO
import Derived.Shelf.Strings.OnBuilder
import Derived.Deep.RegionHeld3
namespace Go.Proofs.YthkjcgcfbodgbaaDoor
open Go.RowKit Go.Shelf
set_option linter.unusedSimpArgs false
set_option linter.unusedVariables false
set_option maxRecDepth 100000

def laysJoin_ren : Go.Shelf.Ren := ⟨fun | 156 => 44 | 165 => 56 | 166 => 57 | 169 => 59 | 240 => 93 | 241 => 94 | 276 => 109 | 277 => 110 | n => n, fun | 0 => 0 | 3 => 3 | 4 => 4 | 5 => 5 | 9 => 9 | 20 => 20 | 31 => 32 | 37 => 22 | 70 => 91 | 72 => 93 | 75 => 96 | 76 => 97 | 80 => 55 | 127 => 118 | 164 => 122 | n => n, fun | n => n⟩
theorem laysJoin : Go.Proofs.Lays.n156 Tryd.prog laysJoin_ren := {
  mixed := by kernel_rfl
  f156 := Tryd.func44.trans (congrArg some (by kernel_rfl))
  f165 := Tryd.func56.trans (congrArg some (by kernel_rfl))
  f166 := Tryd.func57.trans (congrArg some (by kernel_rfl))
  f169 := Tryd.func59.trans (congrArg some (by kernel_rfl))
  f240 := Tryd.func93.trans (congrArg some (by kernel_rfl))
  f241 := Tryd.func94.trans (congrArg some (by kernel_rfl))
  f276 := Tryd.func109.trans (congrArg some (by kernel_rfl))
  f277 := Tryd.func110.trans (congrArg some (by kernel_rfl))
  t0 := Tryd.underlying0
  a0 := Tryd.isAgg0
  z0 := Tryd.sizeOf0
  v0 := Tryd.zeroValue0
  t3 := Tryd.underlying3
  a3 := Tryd.isAgg3
  z3 := Tryd.sizeOf3
  v3 := Tryd.zeroValue3
  t4 := Tryd.underlying4
  a4 := Tryd.isAgg4
  z4 := Tryd.sizeOf4
  v4 := Tryd.zeroValue4
  t9 := Tryd.underlying9
  a9 := Tryd.isAgg9
  z9 := Tryd.sizeOf9
  v9 := Tryd.zeroValue9
  t20 := Tryd.underlying20
  a20 := Tryd.isAgg20
  z20 := Tryd.sizeOf20
  v20 := Tryd.zeroValue20
  t31 := Tryd.underlying32
  a31 := Tryd.isAgg32
  z31 := Tryd.sizeOf32
  v31 := Tryd.zeroValue32
  t37 := Tryd.underlying22
  a37 := Tryd.isAgg22
  z37 := Tryd.sizeOf22
  v37 := Tryd.zeroValue22
  t70 := Tryd.underlying91
  a70 := Tryd.isAgg91
  z70 := Tryd.sizeOf91
  v70 := Tryd.zeroValue91
  t72 := Tryd.underlying93
  a72 := Tryd.isAgg93
  z72 := Tryd.sizeOf93
  v72 := Tryd.zeroValue93
  t75 := Tryd.underlying96
  a75 := Tryd.isAgg96
  z75 := Tryd.sizeOf96
  v75 := Tryd.zeroValue96
  t76 := Tryd.underlying97
  a76 := Tryd.isAgg97
  z76 := Tryd.sizeOf97
  v76 := Tryd.zeroValue97
  t127 := Tryd.underlying118
  a127 := Tryd.isAgg118
  z127 := Tryd.sizeOf118
  v127 := Tryd.zeroValue118
  t164 := Tryd.underlying122
  a164 := Tryd.isAgg122
  z164 := Tryd.sizeOf122
  v164 := Tryd.zeroValue122 }

theorem laysJoinX : Go.Proofs.Builder.Extra Tryd.prog laysJoin_ren := {
  sizeBuilder := by kernel_rfl
  liesBuilder := by kernel_rfl
  t5 := Tryd.underlying5
  a5 := Tryd.isAgg5
  z5 := Tryd.sizeOf5
  v5 := Tryd.zeroValue5
  infoByte := by kernel_rfl
  cellsByte := by kernel_rfl
  sizeByte := by kernel_rfl
  neB5 := by decide }

/-- Texts, joined by blanks. -/
def joinL (xs : List ByteArray) : List UInt8 := Lib.join (xs.map (·.data.toList)) [32]
def joinB (xs : List ByteArray) : ByteArray := ⟨(joinL xs).toArray⟩
theorem joinB_size (xs : List ByteArray) : (joinB xs).size = (joinL xs).length := by simp [joinB, ByteArray.size]
/-- The texts of tokens other than the end. -/
def textsS (l : List Tok) : List ByteArray := (l.filter fun x => decide (x.k ≠ 0)).map (·.t)
theorem textsS_step {l : List Tok} {k : Nat} (hk : k < l.length) : textsS (l.take (k + 1)) = if (l.getD k tok0).k = 0 then textsS (l.take k) else textsS (l.take k) ++ [(l.getD k tok0).t] := by
  have e : l.take (k + 1) = l.take k ++ [l.getD k tok0] := by
    rw [List.take_succ_eq_append_getElem hk]
    simp [List.getD, hk]
  rw [e]
  generalize l.getD k tok0 = x
  unfold textsS
  rw [List.filter_append, List.map_append]
  by_cases h : x.k = 0
  · rw [if_pos h]; simp [h, List.filter]
  · rw [if_neg h]; simp [h, List.filter]
theorem textsS_len (l : List Tok) : (textsS l).length ≤ l.length := by
  unfold textsS
  rw [List.length_map]
  exact List.length_filter_le _ _

theorem sjoinT_any (v : Value) (xs : List ByteArray) (w : World) (h : Strs w v xs) (hx : xs.length ≤ 1000000) (hl : (joinL xs).length ≤ 100000000) :
    Calls Tryd.prog 44 #[v, .string ⟨#[32]⟩] w fun e w' => e = .returned (.string (joinB xs)) ∧ Kept (fun _ => False) w w' := by
  rcases h with ⟨rfl, rfl⟩ | ⟨g, off, cap, rfl, h1, h2, h3, h4⟩
  · exact (Any.strings_Join_none (P := Tryd.prog) (ρ := laysJoin_ren) laysJoin laysJoinX none 0 ⟨#[32]⟩ w).mono fun e w' ⟨h5, h6⟩ => ⟨h5, by rw [h6]; exact Kept.refl _ _⟩
  · have hS := Any.strings_Join (P := Tryd.prog) (ρ := laysJoin_ren) laysJoin laysJoinX g off cap xs ⟨#[32]⟩ w (fun j x hj => by
      have hjl : j < xs.length := (List.getElem?_eq_some_iff.1 hj).1
      rw [h4 j hjl, List.getD_eq_getElem?_getD, hj]
      rfl) h3 (by omega) h1 (by
      have e : (⟨#[32]⟩ : ByteArray).data.toList = [32] := rfl
      rw [e]
      unfold joinL at hl
      omega)
    exact hS.mono fun e w' ⟨h5, h6⟩ => ⟨h5, Kept.ofBelow _ h6⟩

set_option maxHeartbeats 3200000 in
theorem tjoin_any (v : Value) (l : List Tok) (w : World) (h : Toks .u8 w v l) (hl : l.length ≤ 100000) (hj : (joinL (textsS l)).length ≤ 100000000) :
    Calls Tryd.prog 15 #[v] w fun e w' => e = .returned (.string (joinB (textsS l))) ∧ Kept (fun _ => False) w w' := by
  obtain ⟨a, c, rfl, _, _⟩ := h.form
  have HS := Lib.hid h
  obtain ⟨N, hN⟩ : ∃ N, N = l.length := ⟨_, rfl⟩
  rw [← hN] at HS hl ⊢
  have HN := Lib.hid hN
  obtain ⟨J, hJ⟩ : ∃ J, J = joinB (textsS l) := ⟨_, rfl⟩
  rw [← hJ]
  have HJ := Lib.hid hJ
  have HJL := Lib.hid hj
  clear h hN hJ hj
  go_enter Tryd.func15, Tryd.ntmps15
  go_wp2_with fail
  go_loopw [3, 8] (fun tv iv wr => ∃ (k n : Nat) (aa : Option Addr) (cc : Nat), k ≤ N ∧ iv = .int .i64 k ∧ tv = .slice aa n cc ∧ Hid (OwnS wr w.heap.size (.slice aa n cc) (textsS (l.take k))) ∧ Hid (Kept (fun _ => False) w wr)) (fun _ iv _ => N - (intOf iv).toNat)
  case atStart => exact ⟨0, 0, none, 0, by omega, rfl, rfl, OwnS.nil _ _, Kept.refl _ _⟩
  case round =>
    obtain ⟨k, n, aa, cc, hk, rfl, rfl, ho, hkw⟩ := hrel
    have l2 : (0 : Int) ≤ (k : Int) := by omega
    by_cases hlt : k < N
    · have l3 : (k : Int) < (N : Int) := by omega
      obtain ⟨g, off, rfl, hgl, c0, c1, c2, c3⟩ := (HS.out.kept hkw.out (fun _ _ h => h)).at (k := k) (by have := HN.out; omega)
      have hst := textsS_step (l := l) (k := k) (by have := HN.out; omega)
      have hal := textsS_len (l.take k)
      rw [List.length_take] at hal
      obtain ⟨x, hx⟩ : ∃ x, x = l.getD k tok0 := ⟨_, rfl⟩
      rw [← hx] at hst c0 c1 c2 c3
      obtain ⟨kk, t, nn, ii⟩ := x
      simp only at hst c0 c1 c2 c3
      generalize textsS (l.take k) = acc at ho hst hal
      generalize hT : textsS (l.take (k + 1)) = acc2 at hst
      have HT := Lib.hid hT
      have HAL : Hid (acc.length ≤ 100000) := by show _ ≤ _; omega
      have HSZ := Lib.hid hkw.out.size
      clear hx hT hal
      by_cases hkk : kk = 0
      · rw [if_pos hkk] at hst
        subst hkk
        have HR : Hid (OwnS (wr.alloc (.cells #[.int .u8 0, .string t, .int .i64 nn, .int .i64 ii] 31)) w.heap.size (.slice aa n cc) (textsS (l.take (k + 1)))) := by
          rw [HT.out, hst]; exact ho.out.alloc _
        have HK : Hid (Kept (fun _ => False) w (wr.alloc (.cells #[.int .u8 0, .string t, .int .i64 nn, .int .i64 ii] 31))) := hkw.out.then (Kept.alloc _ _ _)
        clear hst HT
        go_wp2_with fail
        go_roundw
        case rel => first | exact ⟨k + 1, n, aa, cc, by omega, by go_num, rfl, HR, HK⟩ | ((repeat apply Exists.intro); exact ⟨⟨k + 1, n, aa, cc, by omega, by go_num, rfl, HR, HK⟩, rfl⟩)
        case measure => simp [intOf]; omega
      · rw [if_neg hkk] at hst
        have hb0 : ((kk : Int) == 0) = false := beq_eq_false_iff_ne.2 (by omega)
        have HST := Lib.hid hst
        clear hst
        go_wp2_with (at_builtin; refine wpList_pushS (by rfl) _ _ rfl rfl w.heap.size _ acc (wr.heap.size + 1) t rfl (by first | rfl | (go_simp; done)) ((ho.out.alloc _).alloc _) (by go_simp) (by have := HAL.out; omega) (by have := HSZ.out; simp; omega) ?_)
        intro a' c' w4 hown hk4
        have HR : Hid (OwnS w4 w.heap.size (.slice a' (acc.length + 1) c') (textsS (l.take (k + 1)))) := by
          rw [HT.out, HST.out]; exact hown
        have HK4 : Hid (Kept (fun _ => False) w w4) := ((hkw.out.then (Kept.alloc _ _ _)).then (Kept.alloc _ _ _)).trans hk4 (fun _ _ h => h) (fun i hi e => by have := (ho.out.bound i e).1; omega)
        clear hown hk4 HST HT ho
        go_wp2_with fail
        go_roundw
        case rel => first | exact ⟨k + 1, acc.length + 1, a', c', by omega, by go_num, rfl, HR, HK4⟩ | ((repeat apply Exists.intro); exact ⟨⟨k + 1, acc.length + 1, a', c', by omega, by go_num, rfl, HR, HK4⟩, rfl⟩)
        case measure => simp [intOf]; omega
    · obtain rfl : k = N := by omega
      have hst : Strs wr (.slice aa n cc) (textsS l) := by
        have h2 := ho.out
        rw [HN.out, List.take_length] at h2
        exact Strs.ofOwn h2
      have HJC := Lib.hid (sjoinT_any _ _ wr hst (by have := textsS_len l; have := HN.out; omega) HJL.out)
      rw [← HJ.out] at HJC
      clear hst ho HJL
      go_wp2_with fail
      refine HJC.out.mono ?_
      rintro e w2 ⟨rfl, k2⟩
      have K2 := Lib.hid (hkw.out.then k2)
      clear k2
      go_wp2_with fail
      go_ret
      exact ⟨rfl, K2.out⟩

/-! The reference's Join. -/
theorem joinL_snoc (xs : List ByteArray) (y : ByteArray) : joinL (xs ++ [y]) = if xs = [] then y.data.toList else joinL xs ++ 32 :: y.data.toList := by
  unfold joinL
  cases xs with
  | nil => simp [Lib.join_one]
  | cons x t =>
    rw [if_neg (by simp), List.cons_append, List.map_cons, List.map_cons, Lib.join_cons, Lib.join_cons]
    unfold Lib.joinTail
    simp
theorem joinL_mono : ∀ (xs ys : List ByteArray), (joinL xs).length ≤ (joinL (xs ++ ys)).length := by
  intro xs ys
  cases xs with
  | nil => simp [joinL, Lib.join_nil]
  | cons x t =>
    unfold joinL
    rw [List.cons_append, List.map_cons, List.map_cons, Lib.join_cons, Lib.join_cons]
    unfold Lib.joinTail
    simp
theorem textsS_take (l : List Tok) (k : Nat) : ∃ ys, textsS l = textsS (l.take k) ++ ys := by
  refine ⟨textsS (l.drop k), ?_⟩
  conv => lhs; rw [← List.take_append_drop k l]
  unfold textsS
  rw [List.filter_append, List.map_append]
theorem joinB_one {xs : List ByteArray} {y : ByteArray} (h : xs = []) : joinB (xs ++ [y]) = y := by
  apply str_extT
  unfold joinB
  rw [joinL_snoc, if_pos h]
theorem joinB_more {xs : List ByteArray} {y : ByteArray} (h : xs ≠ []) : joinB (xs ++ [y]) = (joinB xs ++ ⟨#[32]⟩) ++ y := by
  apply str_extT
  have e : ((joinB xs ++ ⟨#[32]⟩) ++ y : ByteArray).data.toList = ((joinB xs).data.toList ++ [32]) ++ y.data.toList := by
    rw [ByteArray.data_append, Array.toList_append, ByteArray.data_append, Array.toList_append]
  rw [e]
  unfold joinB
  rw [joinL_snoc, if_neg h]
  simp
theorem joinB_first {y : ByteArray} : (joinB []) ++ y = y := by
  apply str_extT
  rw [ByteArray.data_append, Array.toList_append]
  simp [joinB, joinL, Lib.join_nil]

set_option maxHeartbeats 3200000 in
theorem rjoinT_any (v : Value) (l : List Tok) (w : World) (h : Toks .i64 w v l) (hl : l.length ≤ 100000) (hj : (joinL (textsS l)).length ≤ 100000000) :
    Calls Tryd.prog 21 #[v] w fun e w' => e = .returned (.string (joinB (textsS l))) ∧ Kept (fun _ => False) w w' := by
  obtain ⟨a, c, rfl, _, _⟩ := h.form
  have HS := Lib.hid h
  obtain ⟨N, hN⟩ : ∃ N, N = l.length := ⟨_, rfl⟩
  rw [← hN] at HS hl ⊢
  have HN := Lib.hid hN
  obtain ⟨J, hJ⟩ : ∃ J, J = joinB (textsS l) := ⟨_, rfl⟩
  rw [← hJ]
  have HJ := Lib.hid hJ
  have HJL := Lib.hid hj
  clear h hN hJ hj
  go_enter Tryd.func21, Tryd.ntmps21
  go_wp2_with fail
  go_loopw [3, 4, 9] (fun sv bv iv wr => ∃ (k : Nat) (o : ByteArray) (b : Bool), k ≤ N ∧ iv = .int .i64 k ∧ sv = .string o ∧ bv = .bool b ∧ Hid (o = joinB (textsS (l.take k))) ∧ Hid (b = decide (textsS (l.take k) = [])) ∧ Hid (Kept (fun _ => False) w wr)) (fun _ _ iv _ => N - (intOf iv).toNat)
  case atStart => exact ⟨0, ⟨#[]⟩, true, by omega, rfl, rfl, rfl, by show _ = _; rfl, by show _ = _; rfl, Kept.refl _ _⟩
  case round =>
    obtain ⟨k, o, b, hk, rfl, rfl, rfl, ho, hb, hkw⟩ := hrel
    have l2 : (0 : Int) ≤ (k : Int) := by omega
    by_cases hlt : k < N
    · have l3 : (k : Int) < (N : Int) := by omega
      obtain ⟨g, off, rfl, hgl, c0, c1, c2, c3⟩ := (HS.out.kept hkw.out (fun _ _ h => h)).at (k := k) (by have := HN.out; omega)
      have hst := textsS_step (l := l) (k := k) (by have := HN.out; omega)
      have hm1 : (joinL (textsS (l.take k))).length ≤ 100000000 := by
        obtain ⟨ys, hy⟩ := textsS_take l k
        have := joinL_mono (textsS (l.take k)) ys
        rw [← hy] at this
        have := HJL.out; omega
      have hm2 : (joinL (textsS (l.take (k + 1)))).length ≤ 100000000 := by
        obtain ⟨ys, hy⟩ := textsS_take l (k + 1)
        have := joinL_mono (textsS (l.take (k + 1))) ys
        rw [← hy] at this
        have := HJL.out; omega
      obtain ⟨x, hx⟩ : ∃ x, x = l.getD k tok0 := ⟨_, rfl⟩
      rw [← hx] at hst c0 c1 c2 c3
      obtain ⟨kk, t, nn, ii⟩ := x
      simp only at hst c0 c1 c2 c3
      generalize hA : textsS (l.take k) = acc at ho hb hst hm1
      generalize hT : textsS (l.take (k + 1)) = acc2 at hst hm2
      have HT := Lib.hid hT
      clear hx hT hA
      have HK : Hid (∀ c, Kept (fun _ => False) w (wr.alloc (.cells c 44))) := fun c => hkw.out.then (Kept.alloc _ _ _)
      by_cases hkk : kk = 0
      · rw [if_pos hkk] at hst
        subst hkk
        have HR : Hid (o = joinB (textsS (l.take (k + 1)))) := by
          show _ = _
          rw [HT.out, hst]; exact ho.out
        have HB : Hid (b = decide (textsS (l.take (k + 1)) = [])) := by
          show _ = _
          rw [HT.out, hst]; exact hb.out
        clear hst HT hm1 hm2 ho hb
        go_wp2_with fail
        go_roundw
        case rel => first | exact ⟨k + 1, o, b, by omega, by go_num, rfl, rfl, HR, HB, HK.out _⟩ | ((repeat apply Exists.intro); exact ⟨⟨k + 1, o, b, by omega, by go_num, rfl, rfl, HR, HB, HK.out _⟩, rfl⟩)
        case measure => simp [intOf]; omega
      · rw [if_neg hkk] at hst
        have hb0 : ((kk : Int) == 0) = false := beq_eq_false_iff_ne.2 (by omega)
        have hos : o.size ≤ 100000000 := by rw [ho.out, joinB_size]; exact hm1
        have HB : Hid (false = decide (textsS (l.take (k + 1)) = [])) := by
          show _ = _
          rw [HT.out, hst]; simp
        by_cases hac : acc = []
        · have hbt : b = true := by rw [hb.out]; simp [hac]
          have HR : Hid (o ++ t = joinB (textsS (l.take (k + 1)))) := by
            show _ = _
            rw [HT.out, hst, joinB_one hac, ho.out, hac, joinB_first]
          have hts : o.size + t.size ≤ 100000000 := by
            have e1 : (o ++ t).size = o.size + t.size := ByteArray.size_append
            rw [← e1, HR.out, HT.out, joinB_size]; exact hm2
          have hts2 : ¬ 9223372036854775807 < o.size + t.size := by omega
          clear hst HT hm1 hm2 ho hb hac hts
          subst hbt
          go_wp2_with fail
          go_roundw
          case rel => first | exact ⟨k + 1, o ++ t, false, by omega, by go_num, rfl, rfl, HR, HB, HK.out _⟩ | ((repeat apply Exists.intro); exact ⟨⟨k + 1, o ++ t, false, by omega, by go_num, rfl, rfl, HR, HB, HK.out _⟩, rfl⟩)
          case measure => simp [intOf]; omega
        · have hbt : b = false := by rw [hb.out]; simp [hac]
          have HR : Hid ((o ++ ⟨#[32]⟩) ++ t = joinB (textsS (l.take (k + 1)))) := by
            show _ = _
            rw [HT.out, hst, joinB_more hac, ho.out]
          have hts : o.size + 1 + t.size ≤ 100000000 := by
            have e1 : ((o ++ ⟨#[32]⟩) ++ t).size = o.size + 1 + t.size := by rw [ByteArray.size_append, ByteArray.size_append]; rfl
            rw [← e1, HR.out, HT.out, joinB_size]; exact hm2
          have hts1 : ¬ 9223372036854775807 < o.size + 1 := by omega
          have hts2 : ¬ 9223372036854775807 < o.size + 1 + t.size := by omega
          clear hst HT hm1 hm2 ho hb hac hts
          subst hbt
          go_wp2_with fail
          go_roundw
          case rel => first | exact ⟨k + 1, (o ++ ⟨#[32]⟩) ++ t, false, by omega, by go_num, rfl, rfl, HR, HB, HK.out _⟩ | ((repeat apply Exists.intro); exact ⟨⟨k + 1, (o ++ ⟨#[32]⟩) ++ t, false, by omega, by go_num, rfl, rfl, HR, HB, HK.out _⟩, rfl⟩)
          case measure => simp [intOf]; omega
    · obtain rfl : k = N := by omega
      have hJo : J = o := by
        rw [HJ.out, ho.out, HN.out, List.take_length]
      clear ho hb HJ HJL
      subst hJo
      go_wp2_with fail
      go_ret
      exact ⟨rfl, hkw.out⟩
end Go.Proofs.YthkjcgcfbodgbaaDoor
