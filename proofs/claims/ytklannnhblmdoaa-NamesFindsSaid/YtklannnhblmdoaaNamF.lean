/-
  arbaclaw08.NamesFinds returns true: names and numbers.
-/
import Derived.Test.YtklannnhblmdoaaNamAd
namespace Go.Proofs.Ytklannnhblmdoaa
open Go.RowKit

set_option maxRecDepth 100000 in
set_option maxHeartbeats 800000 in
theorem tname_any (q : Int) (w : World) (g : Nat) (xs : List ByteArray) (v : Value) (m n : Nat) (D : DataW Unit) (h : TabAt w g xs v m n D) (hq : -9223372036854775808 ≤ q ∧ q < 9223372036854775808) :
    Calls Try.prog 26 #[.pointer (some ⟨g, 0, none⟩), .int .i64 q] w fun e w' =>
      ((1 ≤ q ∧ q ≤ (xs.length : Int)) ∧ e = .returned (.tuple #[.string (xs.getD (q - 1).toNat ⟨#[]⟩), .bool true]) ∧ w = w') ∨
      (¬ (1 ≤ q ∧ q ≤ (xs.length : Int)) ∧ e = .returned (.tuple #[.string ⟨#[]⟩, .bool false]) ∧ w = w') := by
  have hS := strs_own h.row
  obtain ⟨a, c, hf, _, _⟩ := hS.form
  have HL := Lib.hid (tlen_any w g xs v m n D h)
  have c0 := h.c0
  obtain ⟨N, hN⟩ : ∃ N, N = xs.length := ⟨_, rfl⟩
  rw [hf, ← hN] at hS c0
  rw [← hN] at HL ⊢
  have HS := Lib.hid hS; have HN := Lib.hid hN
  clear h hf hS hN
  by_cases h1 : q < 1
  · go_enter Try.func26, Try.ntmps26
    go_wp2_with fail
    go_ret2
    exact Or.inr ⟨by omega, rfl, rfl⟩
  · by_cases h2 : (N : Int) < q
    · have h1' : ¬ q ≤ 0 := by omega
      go_enter Try.func26, Try.ntmps26
      go_wp2_with fail
      refine HL.out.mono ?_
      rintro e w1 ⟨rfl, rfl⟩
      go_wp2_with fail
      go_ret2
      exact Or.inr ⟨by omega, rfl, rfl⟩
    · obtain ⟨k, hk⟩ : ∃ k : Nat, (k : Int) = q - 1 := ⟨(q - 1).toNat, by omega⟩
      have hkn : k < N := by omega
      obtain ⟨gs, os, rfl, _, hcell⟩ := HS.out.at (k := k) (by rw [← HN.out]; exact hkn)
      have hqk : (q - 1).toNat = k := by omega
      obtain ⟨x, hx⟩ : ∃ x, x = xs.getD k ⟨#[]⟩ := ⟨_, rfl⟩
      rw [← hx] at hcell
      have HX : Hid (xs.getD (q - 1).toNat ⟨#[]⟩ = x) := by rw [hqk, hx]; exact rfl
      have l1 : (k : Int) < (N : Int) := by omega
      have l0 : (0 : Int) ≤ (k : Int) := by omega
      have hqi : q = (k : Int) + 1 := by omega
      have HQ : Hid (1 ≤ q ∧ q ≤ (N : Int)) := ⟨by omega, by omega⟩
      have hw : wrap64 (k : Int) = (k : Int) := IntWalk.wrap64_in _ (by omega)
      have t2 : ¬ (N : Int) < (k : Int) + 1 := by omega
      clear hk hx hqk
      rw [HX.out]
      clear HX
      have HQ2 := HQ
      subst hqi
      clear hq
      go_enter Try.func26, Try.ntmps26
      go_wp2_with fail
      refine HL.out.mono ?_
      rintro e w1 ⟨rfl, rfl⟩
      go_wp2_with fail
      go_ret2
      exact Or.inl ⟨HQ2.out, rfl, rfl⟩

/-- Each name has its place. -/
def Placed (xs : List ByteArray) : Prop := ∀ k, k < xs.length → posS xs (xs.getD k ⟨#[]⟩) = k + 1
theorem Placed.nil : Placed [] := fun k hk => by simp at hk
theorem Placed.snoc {xs : List ByteArray} {s : ByteArray} (h : Placed xs) (h0 : posS xs s = 0) : Placed (xs ++ [s]) := fun k hk => by
  rw [List.length_append, List.length_singleton] at hk
  by_cases e : k < xs.length
  · have hg : (xs ++ [s]).getD k ⟨#[]⟩ = xs.getD k ⟨#[]⟩ := by simp [List.getD, List.getElem?_append_left e]
    have hm : xs.getD k ⟨#[]⟩ ∈ xs := by simp [List.getD, e]
    have hne : xs.getD k ⟨#[]⟩ ≠ s := fun h2 => (posS_zero s xs).1 h0 (h2 ▸ hm)
    rw [hg, posS_snoc_other hne, h k e]
  · obtain rfl : k = xs.length := by omega
    have hg : (xs ++ [s]).getD xs.length ⟨#[]⟩ = s := by simp [List.getD]
    rw [hg, posS_snoc_self s xs h0]

set_option maxRecDepth 100000 in
set_option maxHeartbeats 3200000 in
theorem finds_any (a : Option Addr) (l c : Nat) (ns : List Nat) (q : Int) (s : ByteArray) (w : World) (h : InBytes w (.slice a l c) ns) (hq : -9223372036854775808 ≤ q ∧ q < 9223372036854775808) :
    Calls Try.prog 6 #[.slice a l c, .int .i64 q, .string s] w fun e w' => e = .returned (.bool true) ∧ Kept (fun _ => False) w w' := by
  obtain ⟨i0, hi, hz0, hz1, hz2⟩ := info_parts info_str
  obtain ⟨sm, hsm⟩ : ∃ m, m = Nat.min s.size 20 := ⟨_, rfl⟩
  have hmi : min (s.size : Int) 20 = (sm : Int) := by
    rcases Nat.lt_or_ge 20 s.size with h | h
    · have : sm = 20 := by rw [hsm]; exact Nat.min_eq_right (by omega)
      omega
    · have : sm = s.size := by rw [hsm]; exact Nat.min_eq_left h
      omega
  have hm1 : sm ≤ s.size := by rw [hsm]; exact Nat.min_le_left _ _
  have hm2 : sm ≤ 20 := by rw [hsm]; exact Nat.min_le_right _ _
  have hm3 : (sm : Int) ≤ (s.size : Int) := by omega
  have hm0 : (0 : Int) ≤ (sm : Int) := by omega
  have htz : (s.extract 0 sm).size ≤ 20 := by rw [ByteArray.size_extract]; omega
  have HTZ := Lib.hid htz; have HMI := Lib.hid hmi; have HM3 := Lib.hid hm3; have HM0 := Lib.hid hm0
  have HQ := Lib.hid hq
  have H := Lib.hid h
  clear h hq hsm hmi hm1 hm2 hm3 hm0 htz
  go_enter Try.func6, Try.ntmps6
  go_wp2_with fail
  refine (awake8_any w).mono ?_
  rintro e w0 ⟨rfl, k0⟩
  have K0 := Lib.hid k0
  clear k0
  go_wp2_with fail
  refine (tnew_any w0).mono ?_
  rintro e w1 ⟨rfl, ht1, k1, _⟩
  have K1 := Lib.hid (K0.out.then k1)
  have T1 := Lib.hid ht1
  clear k1 ht1
  generalize w0.heap.size + 1 = g1 at T1 ⊢
  generalize w0.heap.size = m1 at T1
  have hin := H.out.reads.kept K1.out (fun _ _ h => h)
  go_wp2_with fail
  refine (words8_any a l c ns w1 ⟨hin, H.out.byte⟩).mono ?_
  rintro e w2 ⟨yv, rfl, hwd⟩
  obtain ⟨ya, yc, hyf, _, hym⟩ := (strs_own hwd.row).form
  have hyl : (textsOf (ns.take 24)).length ≤ 24 := by rw [textsOf_length, List.length_take]; omega
  have hys : ∀ x ∈ textsOf (ns.take 24), x.size ≤ 13 := textsOf_short _
  have HY := Lib.hid (strs_own hwd.row)
  have K2 := Lib.hid (K1.out.then hwd.kept)
  have I2 : Hid (∃ xs, AddInv w2 w2 g1 (.slice none 0 0) xs ∧ Placed xs ∧ xs.length = 0) := ⟨[], ⟨⟨_, _, _, _, T1.out.stay hwd.kept, fun j hj => by simp [Value.ownBlock] at hj⟩, World.ownsRow_nil _ _ _ _, Kept.refl _ _⟩, Placed.nil, rfl⟩
  have HYS := Lib.hid hys
  subst hyf
  clear hin hwd T1 hys hym
  generalize textsOf (ns.take 24) = ys at HY HYS hyl ⊢
  obtain ⟨Y, hY⟩ : ∃ Y, Y = ys.length := ⟨_, rfl⟩
  rw [← hY] at HY hyl ⊢
  have HYL := Lib.hid hY
  clear hY
  go_wp2_with fail
  go_loopw [7, 8, 31] (fun pv tv iv wr => ∃ k : Nat, k ≤ Y ∧ iv = .int .i64 k ∧ ∃ N g : Nat, ∃ ta tc, N ≤ k ∧ pv = .pointer (some ⟨g, 0, none⟩) ∧ tv = .slice ta N tc ∧ Hid (∃ xs, AddInv w2 wr g (.slice ta N tc) xs ∧ Placed xs ∧ xs.length = N)) (fun _ _ iv _ => Y - (intOf iv).toNat)
  case atStart => exact ⟨0, by omega, rfl, 0, g1, none, 0, by omega, rfl, rfl, I2⟩
  case round =>
    obtain ⟨k, hk, rfl, N, g, ta, tc, hNk, rfl, rfl, hinv⟩ := hrel
    obtain ⟨xs, hin, hpl, hxl⟩ := hinv.out
    have HIN := Lib.hid hin; have HXL := Lib.hid hxl; have HPL := Lib.hid hpl
    clear hin hxl hinv I2 hpl
    by_cases hlt : k < Y
    · have l1 : (k : Int) < (Y : Int) := by omega
      have l0 : (0 : Int) ≤ (k : Int) := by omega
      obtain ⟨gy, oy, rfl, _, hcell⟩ := (HY.out.kept HIN.out.kept (fun _ _ h => h)).at (k := k) (by have := HYL.out; omega)
      have hs13 : (ys.getD k ⟨#[]⟩).size ≤ 13 := by
        have hk2 : k < ys.length := by have := HYL.out; omega
        exact HYS.out _ (by simp [List.getD, hk2])
      generalize ys.getD k ⟨#[]⟩ = x at hcell hs13
      obtain ⟨v, m, n, D, ht, _⟩ := HIN.out.tab
      have HT := Lib.hid ht
      clear ht
      by_cases hr : refS xs x 100 = 0
      · have HR := Lib.hid hr
        clear hr
        go_wp2_with fail
        refine (add_ok x 100 wr g xs v m n D HT.out HR.out).mono ?_
        rw [HXL.out]
        rintro e w4 ⟨g4, rfl, ⟨v4, m4, n4, D4, ht4, hv4, hm4⟩, hg4, k4⟩
        have hrow4 := k4.owns HIN.out.row (fun _ _ h => h)
        rw [HXL.out] at hrow4
        have HR4 := Lib.hid hrow4; have HT4 := Lib.hid ht4; have HV4 := Lib.hid hv4; have HK4 := Lib.hid k4
        have hsz4 : w2.heap.size ≤ w4.heap.size := (HIN.out.kept.then k4).size
        have hm1' : N + 1 ≤ maxLen := by unfold maxLen; omega
        have hm2' : (N + 1) * 16 ≤ 140737488355328 := by omega
        clear hrow4 ht4 hv4 k4
        go_wp2_with (at_builtin; refine wpList_append_lies _ rfl _ _ _ rfl w2.heap.size 9 i0 _ 1 16 Try.underlying26 hi hz0 hz1 hz2 rfl (by omega) (.slice ta N tc) N _ rfl (HR4.out.alloc _) ⟨w4.heap.size, 0, none⟩ 1 1 [.string x] rfl rfl (World.news_of_block (cs := #[.string x]) (t := 9) (fr := (0, 0)) (heap_alloc_new w4 _)) (by simp [Value.oneCell']) (by omega) hm1' hm2' (by simp; omega) (w4.heap.size + 1) (by simp) ?_)
        intro gg cap w5 hown5 hgrow hat hgl
        have kp : Kept (blk (.slice ta N tc)) w4 w5 := (Kept.alloc (fun _ => False) w4 _).trans (Kept.ofGrown (S := blk (.slice ta N tc)) hgrow fun k e => e) (fun _ _ h => h.elim) (fun _ _ h => h)
        have hxl := HXL.out
        have hpush := HIN.out.push (s := x) (cap := cap) (gg := gg) (H := w4.heap.size + 1) HK4.out HT4.out hg4 hm4 HV4.out kp (by rw [hxl]; exact hown5) hat (by omega)
        rw [hxl] at hpush
        have hxl5 : (xs ++ [x]).length = N + 1 := by rw [List.length_append, hxl]; rfl
        have HI5 : Hid (∃ xs, AddInv w2 w5 g4 (.slice (some ⟨gg, 0, none⟩) (N + 1) cap) xs ∧ Placed xs ∧ xs.length = N + 1) := ⟨_, hpush, HPL.out.snoc (refS_ok HR.out).2.1, hxl5⟩
        clear hown5 hgrow hat hgl kp hpush hxl hxl5 HT HT4 HV4 HR4 HIN HK4 hg4 hm4 HPL
        go_wp2
        go_roundw
        case rel => first | exact ⟨k + 1, by omega, by go_num, N + 1, g4, _, _, by omega, rfl, rfl, HI5⟩ | ((repeat apply Exists.intro); exact ⟨⟨k + 1, by omega, by go_num, N + 1, g4, _, _, by omega, rfl, rfl, HI5⟩, rfl⟩)
        case measure => simp [intOf]; omega
      · have hadd := add_no x 100 wr g xs v m n D HT.out (by unfold maxLen; omega) hr
        generalize refS xs x 100 = R at hadd hr
        have HAD := Lib.hid hadd
        clear hadd
        go_wp2_with fail
        refine HAD.out.mono ?_
        rintro e w4 ⟨rfl, k4⟩
        have HI4 : Hid (∃ xs, AddInv w2 w4 g (.slice ta N tc) xs ∧ Placed xs ∧ xs.length = N) := ⟨_, HIN.out.on k4, HPL.out, HXL.out⟩
        clear k4 HT HAD HIN HPL
        go_wp2_with fail
        go_roundw
        case rel => first | exact ⟨k + 1, by omega, by go_num, N, g, _, _, by omega, rfl, rfl, HI4⟩ | ((repeat apply Exists.intro); exact ⟨⟨k + 1, by omega, by go_num, N, g, _, _, by omega, rfl, rfl, HI4⟩, rfl⟩)
        case measure => simp [intOf]; omega
    · have l1 : ¬ (k : Int) < (Y : Int) := by omega
      have hN24 : N ≤ 24 := by omega
      obtain ⟨v, m, n, D, ht, _⟩ := HIN.out.tab
      have HT := Lib.hid ht
      have HROW := Lib.hid (strs_own HIN.out.row)
      have HKW := Lib.hid (K2.out.then HIN.out.kept)
      clear ht hlt
      go_wp2_with fail
      clear l1
      go_loop [52] (fun jv => ∃ j : Nat, j ≤ N ∧ jv = .int .i64 j) (fun jv => N - (intOf jv).toNat)
      case atStart => exact ⟨0, by omega, rfl⟩
      case round =>
        obtain ⟨j, hj, rfl⟩ := hrel
        by_cases hjl : j < N
        · have j1 : (j : Int) < (N : Int) := by omega
          have j0 : (0 : Int) ≤ (j : Int) := by omega
          have hjx : j < xs.length := by have := HXL.out; omega
          obtain ⟨gt, ot, rfl, _, hcell⟩ := HROW.out.at (k := j) hjx
          have hmem : xs.getD j ⟨#[]⟩ ∈ xs := by simp [List.getD, hjx]
          have hx12 := HT.out.short _ hmem
          have hnum := tnumber_any (xs.getD j ⟨#[]⟩) wr g xs v m n D HT.out (by unfold maxLen; omega)
          rw [HPL.out j hjx, show decide (0 < j + 1) = true by simp, show ((j + 1 : Nat) : Int) = (j : Int) + 1 from rfl] at hnum
          have hname := tname_any ((j : Int) + 1) wr g xs v m n D HT.out (by omega)
          rw [show ((j : Int) + 1 - 1).toNat = j by omega] at hname
          have hrng : 1 ≤ (j : Int) + 1 ∧ (j : Int) + 1 ≤ (xs.length : Int) := by omega
          obtain ⟨x, hx⟩ : ∃ x, x = xs.getD j ⟨#[]⟩ := ⟨_, rfl⟩
          rw [← hx] at hcell hnum hname
          have HNU := Lib.hid hnum; have HNA := Lib.hid hname; have HRG := Lib.hid hrng
          clear hmem hx12 hnum hname hrng hx hjx
          go_wp2_with fail
          refine HNU.out.mono ?_
          rintro e w5 ⟨rfl, rfl⟩
          go_wp2_with fail
          refine HNA.out.mono ?_
          rintro e w5 (⟨_, rfl, rfl⟩ | ⟨hno, _⟩)
          · go_wp2_with fail
            go_round
            case rel => exact ⟨j + 1, by omega, by go_num⟩
            case measure => simp [intOf]; omega
          · exact absurd HRG.out hno
        · have j1 : ¬ (j : Int) < (N : Int) := by omega
          have hmi := HMI.out
          have hm3 := HM3.out
          have hm0 := HM0.out
          go_wp2_with fail
          clear hmi hm3 hm0 j1
          have htz := HTZ.out
          generalize s.extract 0 sm = t at htz ⊢
          have hnum := tnumber_any t wr g xs v m n D HT.out (by unfold maxLen; omega)
          have hrnum := rnumber8_any _ xs t wr HROW.out (by have := HXL.out; omega)
          generalize posS xs t = p at hnum hrnum
          have hname := tname_any q wr g xs v m n D HT.out HQ.out
          rw [HXL.out] at hname
          have HNU := Lib.hid hnum; have HRN := Lib.hid hrnum; have HNA := Lib.hid hname
          clear hnum hrnum hname
          have hp : (0 < p ∧ 0 < (p : Int) ∧ decide (0 < p) = true) ∨ (¬ 0 < p ∧ ¬ 0 < (p : Int) ∧ decide (0 < p) = false) := by
            by_cases h : 0 < p
            · exact Or.inl ⟨h, by omega, by simp [h]⟩
            · exact Or.inr ⟨h, by omega, by simp [h]⟩
          rcases hp with ⟨hp1, hp2, hpd⟩ | ⟨hp1, hp2, hpd⟩
          all_goals
            have hnu := HNU.out
            rw [hpd] at hnu
            have HNU2 := Lib.hid hnu
            clear hnu hpd
            refine HNU2.out.mono ?_
            rintro e w5 ⟨rfl, rfl⟩
            go_wp2_with fail
            refine HNA.out.mono ?_
            rintro e w5 (⟨hr, rfl, rfl⟩ | ⟨hr, rfl, rfl⟩)
            · obtain ⟨r1, r2⟩ := hr
              have r1' : 0 < q := by omega
              generalize xs.getD (q - 1).toNat ⟨#[]⟩ = y
              go_wp2_with fail
              refine HRN.out.mono ?_
              rintro e w5 ⟨rfl, rfl⟩
              go_wp2_with fail
              go_ret
              exact ⟨rfl, HKW.out⟩
            · have hcs : (¬ 1 ≤ q ∧ ¬ 0 < q) ∨ (1 ≤ q ∧ 0 < q ∧ ¬ q ≤ (N : Int)) := by omega
              clear hr
              rcases hcs with ⟨r1, r2⟩ | ⟨r1, r2, r3⟩
              all_goals
                go_wp2_with fail
                refine HRN.out.mono ?_
                rintro e w5 ⟨rfl, rfl⟩
                go_wp2_with fail
                go_ret
                exact ⟨rfl, HKW.out⟩
end Go.Proofs.Ytklannnhblmdoaa
