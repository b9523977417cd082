import Derived.Test.YtjglnpijngdpkaaGreatDoorDyAp
import Derived.Test.YtjglnpijngdpkaaGreatDoorDyLn
import Derived.Test.YtjglnpijngdpkaaGreatDoorDyE
import Derived.Test.YtjglnpijngdpkaaGreatDoorDyX
import Derived.Laws.IdiomStrings
import Derived.Deep.RegionHeld3
/-
  Days: the text of a set.
-/
namespace Go.Proofs.YtjglnpijngdpkaaGreatDoor
open Go.RowKit Go.Shelf
set_option linter.unusedSimpArgs false
set_option linter.unusedVariables false
set_option maxRecDepth 100000

theorem conv8 {w : World} {B c : Nat} {a : Option Addr} {xs : List UInt8} (h : Own8 B w (.slice a xs.length c) xs) (hx : 0 < xs.length) :
    (convert 52 9 (.slice a xs.length c)).run Tryz.prog w = .ok (.string ⟨xs.toArray⟩) w := by
  obtain ⟨g, rfl⟩ : ∃ g, a = some ⟨g, 0, none⟩ := by
    rcases h.2 with ⟨e, e2⟩ | ⟨g, _, _, e, _⟩
    · omega
    · cases e; exact ⟨g, rfl⟩
  have h2 := Own8.row h
  refine run_convert_bytes_back (P := Tryz.prog) w 52 9 5 ⟨g, 0, none⟩ c xs Tryz.underlying52 Tryz.underlying5 Tryz.underlying9 (fun j hj => ?_)
  have hadd : (⟨g, 0, none⟩ : Addr).add j = ⟨g, j, none⟩ := by unfold Addr.add; split <;> simp_all
  rw [hadd, h2.cellAt j (by omega)]
  simp [Lib.byteCells, hj]

set_option maxHeartbeats 6400000 in
theorem textP_any (w0 : World) (s : Value) (t : List Int) (hs : SetD w0 s t) (hT : Lib.TabBelow Tryz.prog w0.heap.size w0 "internal/strconv.uint64pow10" .u64 Lib.pow10Tab) :
    Calls Tryz.prog 8 #[s] w0 fun e w' => e = .returned (.string ⟨(textD t).toArray⟩) ∧ Kept (fun _ => False) w0 w' := by
  have hsW := hs
  obtain ⟨row, rfl, hrow, hcan⟩ := hs
  obtain ⟨ra, rc, rfl, _, _⟩ := hrow.form
  have HK1 := Lib.hid (Kept.alloc (fun _ => False) w0 (.cells #[.slice ra t.length rc] 26))
  have HS : Hid (∀ W, Kept (fun _ => False) w0 W → SetD W (.agg #[.slice ra t.length rc]) t) := Lib.hid fun W k => hsW.on k
  have c0 : (w0.alloc (.cells #[.slice ra t.length rc] 26)).cell? ⟨w0.heap.size, 0, none⟩ = some (.slice ra t.length rc) := by go_simp
  have HCL : Hid (∀ W, Kept (fun _ => False) (w0.alloc (.cells #[.slice ra t.length rc] 26)) W → W.cell? ⟨w0.heap.size, 0, none⟩ = some (.slice ra t.length rc)) := Lib.hid fun W k => (k.cell (p := ⟨w0.heap.size, 0, none⟩) (by simp) (fun h => h)).trans c0
  obtain ⟨b0, hb0⟩ : ∃ b, b = decide (t = []) := ⟨_, rfl⟩
  obtain ⟨b1, hb1⟩ : ∃ b, b = decide (t = allD) := ⟨_, rfl⟩
  have HE : Hid (∀ W, Kept (fun _ => False) w0 W → Calls Tryz.prog 14 #[.agg #[.slice ra t.length rc]] W fun e w' => e = .returned (.bool b0) ∧ Kept (fun _ => False) W w') := Lib.hid fun W k => by rw [hb0]; exact dayEmpty_any _ _ _ (HS.out W k)
  have HAL : Hid (∀ W, Calls Tryz.prog 32 #[] W fun e w' => ∃ v, e = .returned v ∧ SetD w' v allD ∧ Kept (fun _ => False) W w') := Lib.hid allD_any
  have HEQ : Hid (∀ W v, SetD W v allD → Kept (fun _ => False) w0 W → Calls Tryz.prog 11 #[.agg #[.slice ra t.length rc], v] W fun e w' => e = .returned (.bool b1) ∧ Kept (fun _ => False) W w') := Lib.hid fun W v hv k => by rw [hb1]; exact dayEqual_any _ _ _ _ _ (HS.out W k) hv
  obtain ⟨l, hl⟩ : ∃ l, l = spansD t := ⟨_, rfl⟩
  have HSPA : Hid (∀ W, Kept (fun _ => False) w0 W → Calls Tryz.prog 18 #[.agg #[.slice ra t.length rc]] W fun e w' => ∃ u, e = .returned u ∧ OwnG ESp 49 W.heap.size w' u l ∧ Kept (fun _ => False) W w') := Lib.hid fun W k => by rw [hl]; exact spansP_any _ _ _ (HS.out W k)
  have hok : ∀ p ∈ l, okSp p := by rw [hl]; exact spansD_ok hcan
  have hlb : l.length ≤ 15001 := by rw [hl, spansD_len]; have := hcan.len; omega
  have hnn : t ≠ [] → 0 < l.length := fun h => by
    rw [hl, spansD_len]
    have h1 := hcan.even
    have h2 : t.length ≠ 0 := fun e => h (List.length_eq_zero_iff.1 e)
    omega
  have HT := Lib.hid (show textD t = if t = [] then noneB else if t = allD then allB else txD l by rw [hl]; rfl)
  have HOK := Lib.hid hok; have HNN := Lib.hid hnn; have HTAB := Lib.hid hT
  have HB0 := Lib.hid hb0; have HB1 := Lib.hid hb1
  obtain ⟨n, hn⟩ : ∃ n, n = t.length := ⟨_, rfl⟩
  rw [← hn] at HK1 HS HCL HE HEQ HSPA c0
  rw [← hn]
  clear hl hok hnn hsW hrow hcan hn hb0 hb1 hT
  go_enter Tryz.func8, Tryz.ntmps8
  go_wp2_with fail
  refine (HE.out _ HK1.out).mono ?_
  generalize hw1 : w0.alloc (.cells #[.slice ra n rc] 26) = w1 at *
  clear hw1
  rintro e w2 ⟨rfl, k2⟩
  have HK2 := Lib.hid (HK1.out.then k2)
  have HC2 := Lib.hid (fun W (k : Kept (fun _ => False) w2 W) => HCL.out W (k2.then k))
  clear k2 HE c0 HK1 HCL
  cases b0 with
  | true =>
    go_wp2_with fail
    go_ret
    refine ⟨?_, HK2.out⟩
    rw [HT.out, if_pos (of_decide_eq_true HB0.out.symm)]
    rfl
  | false =>
    have HN0 := Lib.hid (of_decide_eq_false HB0.out.symm)
    have cc := HC2.out w2 (Kept.refl _ _)
    have HS2 : Hid (∀ W, Kept (fun _ => False) w0 W → True) := Lib.hid fun _ _ => trivial
    have HKD := Lib.hid (HK2.out)
    have HSC : Hid (∀ W, Kept (fun _ => False) w2 W → W.cell? ⟨w0.heap.size, 0, none⟩ = some (.slice ra n rc)) := HC2
    go_wp2_with fail
    go_region_held3 (fun W => W.cell? ⟨w0.heap.size, 0, none⟩ = some (.slice ra n rc))
      (first | exact HSC.out _ KC.out | exact HSC.out _ (Kept.refl _ _) | exact HSC.out _ (Kept.refl _ _).drew)
      ((first | (go_at_call 32; with_reducible refine (HAL.out _).mono ?_; rintro e qq ⟨vAll, rfl, hsAll, j1⟩; have KD := Lib.hid (Kept.then (show Kept (fun _ => False) w2 _ from (by first | exact KC.out | exact Kept.refl _ _ | exact (Kept.refl _ _).drew)) j1); (try clear KC); have KC := KD; clear KD; clear j1) | (go_at_call 11; with_reducible refine (HEQ.out _ _ hsAll (HK2.out.then (show Kept (fun _ => False) w2 _ from (by first | exact KC.out | exact Kept.refl _ _ | exact (Kept.refl _ _).drew)))).mono ?_; rintro e qq ⟨rfl, j1⟩; have KD := Lib.hid (Kept.then (show Kept (fun _ => False) w2 _ from (by first | exact KC.out | exact Kept.refl _ _ | exact (Kept.refl _ _).drew)) j1); (try clear KC); have KC := KD; clear KD; clear j1)))
    all_goals
      have HK3 : Hid (Kept (fun _ => False) w0 qq) := Lib.hid (HK2.out.then KC.out)
      have cc3 := HSC.out qq KC.out
      clear KC
      cases b1 with
      | true =>
        go_wp2_with fail
        go_ret
        refine ⟨?_, HK3.out⟩
        rw [HT.out, if_neg HN0.out, if_pos (of_decide_eq_true HB1.out.symm)]
        rfl
      | false =>
        have HL := Lib.hid (show textD t = txD l by rw [HT.out, if_neg HN0.out, if_neg (of_decide_eq_false HB1.out.symm)])
        have hlp := HNN.out HN0.out
        clear HT HNN HB1 HB0 HEQ HAL
        go_wp2_with fail
        refine (HSPA.out _ HK3.out).mono ?_
        rintro e w4 ⟨u, rfl, hu, k4⟩
        obtain ⟨la, lc, rfl, _, _⟩ := hu.form
        obtain ⟨N, hN⟩ : ∃ N, N = l.length := ⟨_, rfl⟩
        rw [← hN] at hu hlb hlp ⊢
        have HU : Hid (RowG ESp w4 (.slice la N lc) l) := Lib.hid hu.row
        have HK4 := Lib.hid (HK3.out.then k4)
        have HN := Lib.hid hN
        have HTB : Hid (∀ W, Below w4.heap.size w4 W → Lib.TabBelow Tryz.prog w4.heap.size W "internal/strconv.uint64pow10" .u64 Lib.pow10Tab) := Lib.hid fun W h => tab_onD HTAB.out ((below_kept HK4.out (fun _ h => h.elim) (Nat.le_refl _)).trans (h.mono HK4.out.size)) HK4.out.size
        clear hu k4 HSPA HTAB hN cc3 cc HK3
        go_wp2_with fail
        go_loopw [3, 4, 5, 16] (fun pv _ _ iv wr => ∃ (k : Nat) (a : Option Addr) (c : Nat) (xs : List UInt8), k ≤ N ∧ iv = .int .i64 (k : Int) ∧ pv = .slice a xs.length c ∧ Hid (Own8 w4.heap.size wr (.slice a xs.length c) xs ∧ xs = txD (l.take k) ∧ Below w4.heap.size w4 wr)) (fun _ _ _ iv _ => N - (intOf iv).toNat)
        case atStart => exact ⟨0, none, 0, [], Nat.zero_le _, rfl, rfl, Lib.hid ⟨OwnG.nil _ _ _, rfl, Below.refl _ _⟩⟩
        case round =>
          obtain ⟨k, a, c, xs, hk, rfl, rfl, hI⟩ := hrel
          have hws := hI.out.2.2.size
          by_cases hlt : k < N
          · have l1 : (k : Int) < (N : Int) := by omega
            have l0 : (0 : Int) ≤ (k : Int) := by omega
            have hkl : k < l.length := by have := HN.out; omega
            obtain ⟨g, off, rfl, hg, hc⟩ := (HU.out.on (Kept.ofBelow _ hI.out.2.2)).at (k := k) hkl
            have htk : l.take (k + 1) = l.take k ++ [l.getD k (0, 0)] := by rw [List.take_add_one]; simp [List.getD, hkl]
            have hm : l.getD k (0, 0) ∈ l := by simp [List.getD, hkl]
            have hok := HOK.out _ hm
            change AtG ESp wr g (off + k * 2) (l.getD k (0, 0)) at hc
            have hnx := txD_next (l.take k) (l.getD k (0, 0)) (fun p hp => (HOK.out p (List.mem_of_mem_take hp)).1)
            rw [← htk, ← hI.out.2.1, List.length_take, Nat.min_eq_left (by omega)] at hnx
            have hxl := txD_len (l.take k) (fun p hp => HOK.out p (List.mem_of_mem_take hp))
            rw [← hI.out.2.1, List.length_take, Nat.min_eq_left (by omega)] at hxl
            have hx0 : k = 0 → xs = [] := fun e => by rw [hI.out.2.1, e]; rfl
            generalize l.getD k (0, 0) = p at hc hok hnx
            obtain ⟨pf, pt⟩ := p
            obtain ⟨c0, c1⟩ := atESp hc
            simp only at c0 c1
            have hxb : xs.length ≤ 200000 := by omega
            have HX := Lib.hid hI.out.1; have HB := Lib.hid hI.out.2.2; have HNX := Lib.hid hnx; have HOP := Lib.hid hok
            have hbx : (wr.alloc (.cells #[.int .i64 pf, .int .i64 pt] 49)).heap[wr.heap.size]? = some (.cells #[.int .i64 pf, .int .i64 pt] 49 (0, 0)) := heap_alloc_new wr _
            have hbA : Below w4.heap.size w4 (wr.alloc (.cells #[.int .i64 pf, .int .i64 pt] 49)) := hI.out.2.2.trans ((Below.refl _ wr).alloc hws _)
            have hoA : Own8 w4.heap.size (wr.alloc (.cells #[.int .i64 pf, .int .i64 pt] 49)) (.slice a xs.length c) xs := OwnG.alloc hI.out.1 _
            by_cases h0 : k = 0
            · have hk0 : ¬ ((0 : Int) < (k : Int)) := by omega
              have hx := hx0 h0
              have HC := Lib.hid (appendTo_any _ w4.heap.size _ xs pf pt hok hoA (by simp; omega) (by omega) (HTB.out _ hbA))
              have HNY : Hid (xs ++ spanT (pf, pt) = txD (l.take (k + 1))) := Lib.hid (by rw [hnx, if_pos h0, hx])
              have HBA := Lib.hid hbA
              obtain ⟨zs, hzs⟩ : ∃ z, z = xs ++ spanT (pf, pt) := ⟨_, rfl⟩
              rw [← hzs] at HC HNY
              clear hc hg hI htk hm hbx hbA hoA hnx hx0 hx hxl hok h0 hzs
              go_wp2_with fail
              refine HC.out.mono ?_
              rintro e w5 ⟨v5, rfl, ho5, hb5⟩
              obtain ⟨a5, c5, rfl, _, _⟩ := ho5.form
              have HI2 := Lib.hid (And.intro ho5 (And.intro HNY.out (HBA.out.trans hb5)))
              clear ho5 hb5 HC
              go_wp2_with fail
              go_roundw
              case rel => exact ⟨k + 1, a5, c5, zs, by omega, by go_num, by first | rfl | trivial, HI2⟩
              case measure => simp [intOf]; omega
            · have hk0 : (0 : Int) < (k : Int) := by omega
              have hys : (xs ++ [44]).length = xs.length + 1 := by rw [List.length_append]; rfl
              have HY : RowG E8 ((wr.alloc (.cells #[.int .i64 pf, .int .i64 pt] 49)).alloc (.cells #[.int .u8 44] 5)) (.slice (some ⟨wr.heap.size + 1, 0, none⟩) ([44] : List UInt8).length 1) [44] := by
                have h9 : RowG E8 ((wr.alloc (.cells #[.int .i64 pf, .int .i64 pt] 49)).alloc (.cells #[.int .u8 44] 5)) _ [44] := RowG.new _ #[.int .u8 44] 5 1 [44] rfl rfl (by unfold maxLen; omega)
                rw [show (wr.alloc (.cells #[.int .i64 pf, .int .i64 pt] 49)).heap.size = wr.heap.size + 1 by simp] at h9
                exact h9
              obtain ⟨g6, c6, w6, hr6, hown6, hgrow6, hloc6⟩ := appendG_grown Tryz.underlying52 info_u8d rfl (by omega) (OwnG.alloc hoA (.cells #[.int .u8 44] 5)) HY (by rw [show ([44] : List UInt8).length = 1 from rfl]; omega) (by decide) (by rw [World.size_alloc, World.size_alloc]; omega)
              have hbx6 : w6.heap[wr.heap.size]? = some (.cells #[.int .i64 pf, .int .i64 pt] 49 (0, 0)) :=
                (hgrow6.block wr.heap.size (by rw [World.size_alloc, World.size_alloc]; omega) (fun e => own8_notbox hoA hbx (by decide) e.symm)).trans ((heap_alloc_old _ _ (by rw [World.size_alloc]; omega)).trans hbx)
              obtain ⟨f0, f1⟩ := cells_at hbx6
              have hb6 : Below w4.heap.size w4 w6 := (hbA.trans ((Below.refl _ _).alloc (by rw [World.size_alloc]; omega) _)).grown hgrow6 (by rw [World.size_alloc, World.size_alloc]; omega) (fun j e => (hoA.lt j e).1)
              rw [hys] at hr6 hown6
              rw [show ([44] : List UInt8).length = 1 from rfl] at hr6
              have HC := Lib.hid (appendTo_any w6 w4.heap.size (.slice (some ⟨g6, 0, none⟩) (xs.length + 1) c6) (xs ++ [44]) pf pt hok hown6 hb6.size (by rw [hys]; omega) (HTB.out _ hb6))
              have HNY : Hid (xs ++ [44] ++ spanT (pf, pt) = txD (l.take (k + 1))) := Lib.hid (by rw [hnx, if_neg h0])
              have HR6 := Lib.hid hr6; have HB6 := Lib.hid hb6
              obtain ⟨zs, hzs⟩ : ∃ z, z = xs ++ [44] ++ spanT (pf, pt) := ⟨_, rfl⟩
              rw [← hzs] at HC HNY
              clear hzs
              clear hc hg hI htk hm hbx hbA hoA hnx hx0 hxl hok HY hown6 hgrow6 hloc6 hbx6 hb6 hr6 hys
              go_wp2_with (first
                | (at_builtin; refine wpList_appendG_run (by simp [Region.wanted, yielded]) _ _ _ _ rfl _ _ rfl rfl HR6.out ?_)
                | fail)
              refine HC.out.mono ?_
              rintro e w5 ⟨v5, rfl, ho5, hb5⟩
              obtain ⟨a5, c5, rfl, _, _⟩ := ho5.form
              have HI2 := Lib.hid (And.intro ho5 (And.intro HNY.out (HB6.out.trans hb5)))
              clear ho5 hb5 HC
              go_wp2_with fail
              go_roundw
              case rel => exact ⟨k + 1, a5, c5, zs, by omega, by go_num, by first | rfl | trivial, HI2⟩
              case measure => simp [intOf]; omega
          · obtain rfl : k = N := by omega
            have he : xs = txD l := by rw [hI.out.2.1, List.take_of_length_le (by rw [← HN.out]; exact Nat.le_refl _)]
            have hxp : 0 < xs.length := by
              rw [he]
              exact List.length_pos_iff.2 (txD_ne l (fun p hp => (HOK.out p hp).1) (fun e => by rw [HN.out, e] at hlp; simp at hlp))
            have kc := conv8 hI.out.1 hxp
            have HE := Lib.hid he
            have HF := Lib.hid (HK4.out.then (Kept.ofBelow (fun _ => False) hI.out.2.2))
            clear he hxp hI
            go_wp2_with fail
            go_ret
            exact ⟨by rw [HL.out, ← HE.out]; rfl, HF.out⟩
end Go.Proofs.YtjglnpijngdpkaaGreatDoor
