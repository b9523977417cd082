/-
  arbaclaw15.TokenCovers returns true.
-/
import Derived.Test.YthkjcgcfbodgbaaDoorTkCo
import Derived.Test.YthkjcgcfbodgbaaDoorTkT
import Derived.Test.YthkjcgcfbodgbaaDoorTkU
import Derived.Test.YthkjcgcfbodgbaaDoorArgIn
import Derived.Test.YthkjcgcfbodgbaaDoorTkRe
namespace Go.Proofs.YthkjcgcfbodgbaaDoor
open Go.RowKit Go.Shelf
set_option linter.unusedSimpArgs false
set_option linter.unusedVariables false

theorem scan_err_nilC {s : ByteArray} (h : (scanS s).2.2 ≠ 0) : (scanS s).1 = [] := by
  unfold scanS at h ⊢
  split
  · rfl
  · rename_i h8
    rw [if_neg h8] at h
    split
    · rfl
    · rename_i hq
      rw [hq] at h
      exact absurd rfl h
theorem splitB_size (sep : ByteArray) : ∀ (k : Nat) (s : ByteArray), ∀ y ∈ Lib.splitB sep 0 k s, y.size ≤ s.size
  | 0, s => fun y hy => by
    rw [Lib.splitB_zero] at hy
    obtain rfl := List.mem_singleton.1 hy
    exact Nat.le_refl _
  | k + 1, s => fun y hy => by
    rw [Lib.splitB] at hy
    split at hy
    · obtain rfl := List.mem_singleton.1 hy
      exact Nat.le_refl _
    · rcases List.mem_cons.1 hy with rfl | hy
      · rw [ByteArray.size_extract]; omega
      · have := splitB_size sep k _ y hy
        rw [ByteArray.size_extract] at this; omega
/-- The lines that lie between two tokens, as the loop over them asks. -/
theorem gap_lines {s : ByteArray} {j i : Nat} (hs : s.size ≤ 400) (h : Gap s j i) : (linesB (s.extract j i)).length ≤ 401 ∧
    ∀ m, m < (linesB (s.extract j i)).length → ∃ p : ByteArray, (∀ W, Calls Tryd.prog 17 #[.string ((linesB (s.extract j i)).getD m ⟨#[]⟩), .string ⟨#[35]⟩] W fun e w' => ∃ t b, e = .returned (.tuple #[.string p, .string t, .bool b]) ∧ Kept (fun _ => False) W w') ∧
      (∀ W, Calls Tryd.prog 18 #[.string p, .string ⟨#[32, 9, 13]⟩] W fun e w' => e = .returned (.string ⟨#[]⟩) ∧ Kept (fun _ => False) W w') := by
  have hz : (s.extract j i).size ≤ 400 := by rw [ByteArray.size_extract]; omega
  obtain ⟨h1, h2⟩ := linesB_len (s.extract j i)
  refine ⟨by omega, fun m hm => ?_⟩
  have hmem : (linesB (s.extract j i)).getD m ⟨#[]⟩ ∈ linesB (s.extract j i) := by
    have e : (linesB (s.extract j i)).getD m ⟨#[]⟩ = (linesB (s.extract j i))[m] := by simp [List.getD, hm]
    rw [e]; exact List.getElem_mem _
  have hok := h _ hmem
  have hys := splitB_size _ _ _ _ hmem
  generalize (linesB (s.extract j i)).getD m ⟨#[]⟩ = y at hok hys ⊢
  refine ⟨_, fun W => cut_hash y (by omega) W, fun W => trim_blank _ ?_ ?_ W⟩
  · have : (y.data.toList.takeWhile (fun b => b != 35)).length ≤ y.data.toList.length := (List.takeWhile_prefix _).length_le
    have e : y.size = y.data.toList.length := rfl
    show (y.data.toList.takeWhile (fun b => b != 35)).toArray.size ≤ _
    simp only [List.size_toArray]; omega
  · exact hok

set_option maxRecDepth 100000 in
set_option maxHeartbeats 6400000 in
theorem tcovers_law (s : ByteArray) (w : World) (hS : Sym w) (hs : s.size ≤ maxLen) :
    Calls Tryd.prog 4 #[.string s] w fun e w' => e = .returned (.bool true) ∧ Kept (fun _ => False) w w' := by
  have HS := Lib.hid hS
  have HAW := Lib.hid (awake15_any w hS)
  have HC := Lib.hid (fun W => cutk_any s W hs)
  have hcs := cutK_size s
  have hcv := fun h => cov_scan (s := cutK s) h
  have her := fun h => scan_err_nilC (s := cutK s) h
  have hln := scanS_len (cutK s)
  generalize cutK s = t at hcs HC hcv her hln
  have H1 := Lib.hid (fun W hW => tscan_any t W (by omega) hW)
  obtain ⟨R, hR⟩ : ∃ R, R = scanS t := ⟨_, rfl⟩
  simp only [← hR] at H1 hcv her hln
  obtain ⟨l, o, b⟩ := R
  simp only at H1 hcv her hln
  have HER := Lib.hid her; have HCV := Lib.hid hcv
  clear hR hS hs her hcv
  go_enter Tryd.func4, Tryd.ntmps4
  go_wp2_with fail
  refine HAW.out.mono ?_
  rintro e w1 ⟨rfl, k1⟩
  have K1 := Lib.hid k1
  clear k1 HAW
  go_wp2_with fail
  refine (HC.out _).mono ?_
  rintro e w2 ⟨rfl, rfl⟩
  go_wp2_with fail
  refine (H1.out _ (HS.out.kept K1.out (fun h => h))).mono ?_
  rintro e w3 ⟨v3, rfl, o3, k3⟩
  have T3 := Lib.hid o3.toks
  have K3 := Lib.hid (K1.out.then k3)
  obtain ⟨la, lc, rfl, z1, z2⟩ := o3.form
  clear o3 k3
  by_cases hb0 : b = 0
  · subst hb0
    have HCV0 : Hid (Cov t 0 l) := HCV.out rfl
    clear HCV HER
    obtain ⟨N, hN⟩ : ∃ N, N = l.length := ⟨_, rfl⟩
    rw [← hN] at T3 z1 hln ⊢
    have HN := Lib.hid hN
    clear hN
    have hT0 : (0 : Int) ≤ (t.size : Int) := by omega
    go_wp2_with fail
    go_loopw [6, 31] (fun av iv wr => ∃ k a : Nat, k ≤ N ∧ a ≤ t.size ∧ av = .int .i64 a ∧ iv = .int .i64 k ∧ Hid (Cov t a (l.drop k)) ∧ Hid (Kept (fun _ => False) w3 wr)) (fun _ iv _ => N - (intOf iv).toNat)
    case atStart => exact ⟨0, 0, by omega, by omega, rfl, rfl, HCV0.out, Kept.refl _ _⟩
    case round =>
      obtain ⟨k, a, hk, ha, rfl, rfl, hcov, hkw⟩ := hrel
      have l0 : (0 : Int) ≤ (k : Int) := by omega
      have la0 : (0 : Int) ≤ (a : Int) := by omega
      by_cases hlt : k < N
      · have l1 : (k : Int) < (N : Int) := by omega
        obtain ⟨g, off, rfl, hgl, c0, c1, c2, c3⟩ := (T3.out.kept hkw.out (fun _ _ h => h)).at (k := k) (by rw [← HN.out]; exact hlt)
        have hd : l.drop k = l.getD k tok0 :: l.drop (k + 1) := by
          have h2 : k < l.length := by rw [← HN.out]; exact hlt
          rw [List.drop_eq_getElem_cons h2]
          simp [List.getD, h2]
        have hcv := hcov.out
        rw [hd] at hcv
        obtain ⟨i, hi, hai, his, hxt, hk0, ht0, hgap, hcv2⟩ := hcv
        have hr : l.drop (k + 1) = [] ↔ k + 1 = N := by
          rw [List.drop_eq_nil_iff, ← HN.out]; omega
        rw [hr] at hk0
        have HCV2 := Lib.hid hcv2
        clear hd hr hcv2
        generalize l.getD k tok0 = x at *
        obtain ⟨kk, tt, nn, ii⟩ := x
        simp only at c0 c1 c2 c3 hi his hxt hk0 ht0 HCV2
        subst hi
        obtain ⟨a2, ha2⟩ : ∃ a2, a2 = i + tt.size := ⟨_, rfl⟩
        rw [← ha2] at his hxt HCV2
        have e0 : (i : Int) + (tt.size : Int) = (a2 : Int) := by omega
        have i0 : (0 : Int) ≤ (i : Int) := by omega
        have i1 : (a : Int) ≤ (i : Int) := by omega
        have i2 : (i : Int) ≤ (a2 : Int) := by omega
        have i3 : (a2 : Int) ≤ (t.size : Int) := by omega
        have i4 : (i : Int) ≤ (t.size : Int) := by omega
        have i5 : ¬ (i : Int) < (a : Int) := by omega
        have i6 : ¬ (t.size : Int) < (a2 : Int) := by omega
        have i7 : (t.size : Int) ≤ 400 := by omega
        have i8 : (N : Int) ≤ 402 := by omega
        have i9 : (1 : Int) ≤ (N : Int) := by omega
        have n5 : ¬ i < a := by omega
        have n6 : ¬ t.size < a2 := by omega
        have hwab : IntKind.i64.wrap (a2 : Int) = (a2 : Int) ∧ IntKind.i64.wrap ((N : Int) - 1) = (N : Int) - 1 := ⟨IntWalk.i64_in _ (by omega), IntWalk.i64_in _ (by omega)⟩
        obtain ⟨p, e1, e2, e3, e4⟩ : ∃ p : Bool, ((kk : Int) == 0) = p ∧ ((k : Int) == (N : Int) - 1) = p ∧ (tt.toList == []) = p ∧ tt.toList.isEmpty = p := by
          refine ⟨decide (kk = 0), ?_, ?_, ?_, ?_⟩
          · rw [Bool.eq_iff_iff]; simp
          · rw [Bool.eq_iff_iff]; simp only [beq_iff_eq, decide_eq_true_eq, hk0]; omega
          · rw [Bool.eq_iff_iff]; simp only [beq_iff_eq, decide_eq_true_eq, ← ht0]
            rw [Lib.toList_data, Lib.size_eq]; exact ⟨fun e => by rw [e]; rfl, fun e => List.length_eq_zero_iff.1 e⟩
          · rw [Bool.eq_iff_iff]; simp only [List.isEmpty_iff, decide_eq_true_eq, ← ht0]
            rw [Lib.toList_data, Lib.size_eq]; exact ⟨fun e => by rw [e]; rfl, fun e => List.length_eq_zero_iff.1 e⟩
        obtain ⟨hM4, hLN⟩ := gap_lines hcs hgap
        have HSPL := Lib.hid (fun W => split_line (t.extract a i) (by rw [ByteArray.size_extract]; omega) W)
        generalize linesB (t.extract a i) = ls at HSPL hM4 hLN
        obtain ⟨M, hM⟩ : ∃ M, M = ls.length := ⟨_, rfl⟩
        rw [← hM] at HSPL hM4 hLN
        have HM := Lib.hid hM
        have HLN := Lib.hid hLN
        have HXT : Hid (t.extract i a2 = tt) := hxt
        have HA2 := Lib.hid ha2
        have hm0 : (0 : Int) ≤ (M : Int) := by omega
        clear hM hLN hgap hk0 ht0 ha2 hcov hxt
        go_wp2_with fail
        obtain ⟨q0, q1, q2, q3, _, _, _, _, hbl⟩ := box4 (Kept.refl (fun _ => False) (wr.alloc (.cells #[.int .u8 (kk : Int), .string tt, .int .i64 nn, .int .i64 (i : Int)] 31)))
        have HKA := Lib.hid (hkw.out.then (Kept.alloc (fun _ => False) wr (.cells #[.int .u8 (kk : Int), .string tt, .int .i64 nn, .int .i64 (i : Int)] 31)))
        clear c0 c1 c2 c3 hkw hgl
        generalize wr.alloc (.cells #[.int .u8 (kk : Int), .string tt, .int .i64 nn, .int .i64 (i : Int)] 31) = wx at *
        generalize wr.heap.size = bx at *
        have HX : Hid (∀ W, Kept (fun _ => False) wx W → W.cell? ⟨bx, 1, none⟩ = some (.string tt) ∧ W.cell? ⟨bx, 3, none⟩ = some (.int .i64 (i : Int))) := fun W hW =>
          ⟨(hW.cell (p := ⟨bx, 1, none⟩) hbl (fun h => h)).trans q1, (hW.cell (p := ⟨bx, 3, none⟩) hbl (fun h => h)).trans q3⟩
        obtain ⟨hwa, hwn⟩ := hwab
        have hxt := HXT.out
        go_quiet (fail)
        clear hxt e1 e2 e3 e4 q0 q1 q2 q3
        have KD := Lib.hid ((Kept.refl (fun _ => False) wx).drewN nq)
        generalize wx.drewN nq = wd at *
        obtain ⟨q1, q3⟩ := HX.out _ KD.out
        go_wp2_with fail
        refine (HSPL.out _).mono ?_
        rintro e wy ⟨rfl, st, ky⟩
        have ST := Lib.hid st
        have KY := Lib.hid (KD.out.then ky)
        clear st ky q1 q3 KD
        generalize wd.heap.size = by1 at *
        go_wp2_with fail
        go_loopw [93] (fun jv wz => ∃ m : Nat, m ≤ M ∧ jv = .int .i64 m ∧ Hid (Kept (fun _ => False) wy wz)) (fun jv _ => M - (intOf jv).toNat)
        case atStart => exact ⟨0, by omega, rfl, Kept.refl _ _⟩
        case round =>
          obtain ⟨m, hm, rfl, hkz⟩ := hrel
          have j0 : (0 : Int) ≤ (m : Int) := by omega
          by_cases hlm : m < M
          · have j1 : (m : Int) < (M : Int) := by omega
            obtain ⟨g2, off2, hg2, hgl2, cell⟩ := (ST.out.kept hkz.out (fun _ _ h => h)).at (k := m) (by rw [← HM.out]; exact hlm)
            cases hg2
            rw [Nat.zero_add] at cell
            obtain ⟨y1, HC1, HT1⟩ := HLN.out m hlm
            have HCU := Lib.hid HC1
            have HTR := Lib.hid HT1
            clear HC1 HT1
            generalize ls.getD m ⟨#[]⟩ = y at cell HCU
            go_wp2_with fail
            refine (HCU.out _).mono ?_
            rintro e wa ⟨t1, b1, rfl, ka⟩
            have KA := Lib.hid (hkz.out.then ka)
            clear ka
            go_wp2_with fail
            refine (HTR.out _).mono ?_
            rintro e wb ⟨rfl, kb⟩
            have KB := Lib.hid (KA.out.then kb)
            clear kb KA
            go_wp2_with fail
            go_roundw
            case rel => first | exact ⟨m + 1, by omega, by go_num, KB⟩ | ((repeat apply Exists.intro); exact ⟨⟨m + 1, by omega, by go_num, KB⟩, rfl⟩)
            case measure => simp [intOf]; omega
          · have j1 : ¬ (m : Int) < (M : Int) := by omega
            have KZ := Lib.hid (KY.out.then hkz.out)
            obtain ⟨q1, q3⟩ := HX.out _ KZ.out
            have HE := Lib.hid (HKA.out.then KZ.out)
            go_wp2_with fail
            go_roundw
            case rel => first | exact ⟨k + 1, a2, by omega, by omega, by go_num, by go_num, HCV2, HE⟩ | ((repeat apply Exists.intro); exact ⟨⟨k + 1, a2, by omega, by omega, by go_num, by go_num, HCV2, HE⟩, rfl⟩)
            case measure => simp [intOf]; omega
      · have l1 : ¬ (k : Int) < (N : Int) := by omega
        have hcv := hcov.out
        rw [List.drop_eq_nil_iff.2 (by rw [← HN.out]; omega)] at hcv
        have ea : ((a : Int) == (t.size : Int)) = true := beq_iff_eq.2 (congrArg Nat.cast hcv)
        clear hcv hcov
        go_wp2_with fail
        go_ret
        exact ⟨rfl, K3.out.then hkw.out⟩
  · have hbb : ((b : Int) == 0) = false := beq_eq_false_iff_ne.2 (by omega)
    have hbb2 : ((b : Int) != 0) = true := by simp only [bne, hbb, Bool.not_false]
    have hnil := HER.out hb0
    subst hnil
    clear HER HCV
    go_wp2_with fail
    go_ret
    exact ⟨rfl, K3.out⟩
end Go.Proofs.YthkjcgcfbodgbaaDoor
