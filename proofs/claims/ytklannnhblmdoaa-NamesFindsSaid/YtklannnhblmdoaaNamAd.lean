/-
  The reference's Same, the table's Names; arbaclaw08.NamesAdds returns true.
-/
import Derived.Test.YtklannnhblmdoaaNamS
namespace Go.Proofs.Ytklannnhblmdoaa
open Go.RowKit

set_option maxRecDepth 100000 in
set_option maxHeartbeats 800000 in
theorem rsame8_any (v1 v2 : Value) (xs ys : List ByteArray) (w : World) (h1 : Strs w v1 xs) (h2 : Strs w v2 ys) :
    Calls Try.prog 17 #[v1, v2] w fun e w' => e = .returned (.bool (decide (xs = ys))) ∧ Kept (fun _ => False) w w' := by
  obtain ⟨R, hR⟩ : ∃ R, R = decide (xs = ys) := ⟨_, rfl⟩
  rw [← hR]
  obtain ⟨a1, c1, rfl, hc1, hm1⟩ := h1.form
  obtain ⟨a2, c2, rfl, hc2, hm2⟩ := h2.form
  unfold maxLen at hm1 hm2
  have HR := Lib.hid hR
  clear hR
  by_cases hlen : xs.length = ys.length
  · have H1 := Lib.hid h1; have H2 := Lib.hid h2
    obtain ⟨n, hn⟩ : ∃ n, n = xs.length := ⟨_, rfl⟩
    have hn2 : n = ys.length := by omega
    have hnb : n ≤ 9223372036854775807 := by omega
    rw [← hn] at H1
    rw [← hn2] at H2
    rw [← hn, ← hn2]
    have HN := Lib.hid hn; have HN2 := Lib.hid hn2
    clear h1 h2 hn hn2 hlen hc1 hm1 hc2 hm2
    go_enter Try.func17, Try.ntmps17
    go_wp2_with fail
    go_loopw [13] (fun iv wr => ∃ k : Nat, k ≤ n ∧ iv = .int .i64 k ∧ Hid (∀ j, j < k → xs.getD j ⟨#[]⟩ = ys.getD j ⟨#[]⟩) ∧ Hid (Kept (fun _ => False) w wr)) (fun iv _ => n - (intOf iv).toNat)
    case atStart => exact ⟨0, by omega, rfl, fun j hj => by omega, Kept.refl _ _⟩
    case round =>
      obtain ⟨k, hk, rfl, heq, hkw⟩ := hrel
      by_cases hlt : k < n
      · have l1 : (k : Int) < (n : Int) := by omega
        have l0 : (0 : Int) ≤ (k : Int) := by omega
        obtain ⟨g, off, rfl, _, hcell⟩ := (H1.out.kept hkw.out (fun _ _ h => h)).at (k := k) (by have := HN.out; omega)
        obtain ⟨g', off', rfl, _, hcell'⟩ := (H2.out.kept hkw.out (fun _ _ h => h)).at (k := k) (by have := HN2.out; omega)
        obtain ⟨x, hx⟩ : ∃ x, x = xs.getD k ⟨#[]⟩ := ⟨_, rfl⟩
        obtain ⟨y, hy⟩ : ∃ y, y = ys.getD k ⟨#[]⟩ := ⟨_, rfl⟩
        rw [← hx] at hcell
        rw [← hy] at hcell'
        have HX := Lib.hid hx; have HY := Lib.hid hy
        clear hx hy
        by_cases he : x = y
        · have hb : (x.toList == y.toList) = true := by rw [str_eq]; simp [he]
          have heq2 : Hid (∀ j, j < k + 1 → xs.getD j ⟨#[]⟩ = ys.getD j ⟨#[]⟩) := fun j hj => by
            by_cases e : j < k
            · exact heq.out j e
            · obtain rfl : j = k := by omega
              rw [← HX.out, ← HY.out]; exact he
          clear he heq
          go_wp2_with fail
          go_quiet (fail)
          have HK2 := Lib.hid (hkw.out.drewN nq)
          generalize wr.drewN nq = wd at *
          go_wp2_with fail
          go_roundw
          case rel => first | exact ⟨k + 1, by omega, by go_num, heq2, HK2⟩ | ((repeat apply Exists.intro); exact ⟨⟨k + 1, by omega, by go_num, heq2, HK2⟩, rfl⟩) | ((repeat apply Exists.intro); exact ⟨by omega, by go_num, heq2, HK2⟩)
          case measure => simp [intOf]; omega
        · have hb : (x.toList == y.toList) = false := by rw [str_eq]; simp [he]
          have hrf : R = false := by
            rw [HR.out, decide_eq_false_iff_not]
            intro h
            exact he (by rw [HX.out, HY.out, h])
          clear he heq
          subst hrf
          go_wp2_with fail
          go_quiet (fail)
          have HK2 := Lib.hid (hkw.out.drewN nq)
          generalize wr.drewN nq = wd at *
          go_wp2_with fail
          go_ret
          exact ⟨rfl, HK2.out⟩
      · obtain rfl : k = n := by omega
        have hrt : R = true := by
          rw [HR.out, decide_eq_true_iff]
          apply List.ext_getElem
          · rw [← HN.out, ← HN2.out]
          · intro i h1 h2
            have := heq.out i (by have := HN.out; omega)
            simpa [List.getD, h1, h2] using this
        clear heq
        subst hrt
        go_wp2_with fail
        go_ret
        exact ⟨rfl, hkw.out⟩
  · have hrf : R = false := by
      rw [HR.out, decide_eq_false_iff_not]
      intro h
      exact hlen (by rw [h])
    have hli : ¬ (xs.length : Int) = (ys.length : Int) := by omega
    subst hrf
    clear h1 h2
    go_enter Try.func17, Try.ntmps17
    go_wp2_with fail
    go_ret
    exact ⟨rfl, Kept.refl _ _⟩

set_option maxRecDepth 100000 in
theorem tnames_any (w : World) (g : Nat) (xs : List ByteArray) (v : Value) (m n : Nat) (D : DataW Unit) (h : TabAt w g xs v m n D) :
    Calls Try.prog 24 #[.pointer (some ⟨g, 0, none⟩)] w fun e w' => ∃ v', e = .returned v' ∧ w'.ownsRow w.heap.size 9 1 v' xs.length (xs.map Value.string) ∧ Kept (fun _ => False) w w' := by
  have HC := Lib.hid (sclone_any v xs w (strs_own h.row) h.le)
  obtain ⟨a, c, hf, _, _⟩ := (strs_own h.row).form
  have c0 := h.c0
  subst hf
  clear h
  go_enter Try.func24, Try.ntmps24
  go_wp2_with fail
  refine HC.out.mono ?_
  rintro e w1 ⟨v1, rfl, hown, hk⟩
  have HO := Lib.hid hown; have HK := Lib.hid hk
  clear hown hk
  go_wp2_with fail
  go_ret
  exact ⟨_, rfl, HO.out, HK.out⟩

/-- What the loops that add names keep: the table, and the list of what was added. -/
structure AddInv (w wr : World) (g : Nat) (tv : Value) (xs : List ByteArray) : Prop where
  tab : ∃ v m n D, TabAt wr g xs v m n D ∧ ∀ j, tv.ownBlock = some j → j ≠ g ∧ j ≠ m ∧ v.ownBlock ≠ some j
  row : wr.ownsRow w.heap.size 9 1 tv xs.length (xs.map Value.string)
  kept : Kept (fun _ => False) w wr

theorem AddInv.on {w w1 w2 : World} {g : Nat} {tv : Value} {xs : List ByteArray} (h : AddInv w w1 g tv xs) (hk : Kept (fun _ => False) w1 w2) : AddInv w w2 g tv xs := by
  obtain ⟨v, m, n, D, ht, hap⟩ := h.tab
  exact ⟨⟨v, m, n, D, ht.stay hk, hap⟩, hk.owns h.row (fun _ _ h => h), h.kept.then hk⟩

/-- A name is added to the list. -/
theorem AddInv.push {w w1 w2 w3 : World} {g g' gg H cap l c : Nat} {a : Option Addr} {xs : List ByteArray} {s : ByteArray} {v' : Value} {m' n' : Nat} {D' : DataW Unit} (h : AddInv w w1 g (.slice a l c) xs)
    (hk : Kept (fun _ => False) w1 w2) (ht : TabAt w2 g' (xs ++ [s]) v' m' n' D') (hg : w1.heap.size ≤ g') (hm : w1.heap.size ≤ m') (hv : ∀ k, v'.ownBlock = some k → w1.heap.size ≤ k)
    (kp : Kept (blk (.slice a l c)) w2 w3) (hown : w3.ownsRow w.heap.size 9 1 (.slice (some ⟨gg, 0, none⟩) (xs.length + 1) cap) (xs.length + 1) (xs.map Value.string ++ [.string s])) (hat : (Value.slice a l c).ownBlock = some gg ∨ gg = H) (hH : w2.heap.size ≤ H) :
    AddInv w w3 g' (.slice (some ⟨gg, 0, none⟩) (xs.length + 1) cap) (xs ++ [s]) := by
  have hlt := h.row.lt
  refine ⟨⟨v', m', n', D', ht.kept kp (fun e => by have := hlt _ e; omega) (fun k hk e => by have := hlt _ e; have := hv k hk; omega) (fun e => by have := hlt _ e; omega), fun j hj => ?_⟩, ?_, (h.kept.then hk).trans kp (fun _ _ h => h) (fun i hi e => by have := hlt _ e; omega)⟩
  · have hgj : gg = j := by simpa [Value.ownBlock] using hj
    subst hgj
    rcases hat with e | e
    · have := hlt _ e
      exact ⟨by omega, by omega, fun e2 => by have := hv _ e2; omega⟩
    · have h1 := ht.lt; have h2 := ht.map.lt
      exact ⟨by omega, by omega, fun e2 => by have := (ht.row.lt _ e2).2; omega⟩
  · rw [List.length_append, List.map_append]; exact hown

set_option maxRecDepth 100000 in
set_option maxHeartbeats 3200000 in
theorem adds_any (a : Option Addr) (l c : Nat) (ns : List Nat) (most : Int) (w : World) (h : InBytes w (.slice a l c) ns) :
    Calls Try.prog 5 #[.slice a l c, .int .i64 most] w fun e w' => e = .returned (.bool true) ∧ Kept (fun _ => False) w w' := by
  obtain ⟨i0, hi, hz0, hz1, hz2⟩ := info_parts info_str
  have H := Lib.hid h
  clear h
  go_enter Try.func5, Try.ntmps5
  go_wp2_with fail
  refine (awake8_any w).mono ?_
  rintro e w0 ⟨rfl, k0⟩
  have K0 := Lib.hid k0
  clear k0
  go_wp2_with fail
  refine (tnew_any w0).mono ?_
  rintro e w1 ⟨rfl, ht1, k1, _⟩
  have K1 := Lib.hid (K0.out.then k1)
  have T1 := Lib.hid ht1
  clear k1 ht1
  generalize w0.heap.size + 1 = g1 at T1 ⊢
  generalize w0.heap.size = m1 at T1
  have hin := H.out.reads.kept K1.out (fun _ _ h => h)
  go_wp2_with fail
  refine (words8_any a l c ns w1 ⟨hin, H.out.byte⟩).mono ?_
  rintro e w2 ⟨yv, rfl, hwd⟩
  obtain ⟨ya, yc, hyf, _, hym⟩ := (strs_own hwd.row).form
  have hyl : (textsOf (ns.take 24)).length ≤ 24 := by rw [textsOf_length, List.length_take]; omega
  have hys : ∀ x ∈ textsOf (ns.take 24), x.size ≤ 13 := textsOf_short _
  have HY := Lib.hid (strs_own hwd.row)
  have K2 := Lib.hid (K1.out.then hwd.kept)
  have I2 : Hid (∃ xs, AddInv w2 w2 g1 (.slice none 0 0) xs ∧ xs.length ≤ 0 ∧ xs.length = 0) := ⟨[], ⟨⟨_, _, _, _, T1.out.stay hwd.kept, fun j hj => by simp [Value.ownBlock] at hj⟩, World.ownsRow_nil _ _ _ _, Kept.refl _ _⟩, by simp, rfl⟩
  have HYS := Lib.hid hys
  subst hyf
  clear hin hwd T1 hys hym
  generalize textsOf (ns.take 24) = ys at HY HYS hyl ⊢
  obtain ⟨Y, hY⟩ : ∃ Y, Y = ys.length := ⟨_, rfl⟩
  rw [← hY] at HY hyl ⊢
  have HYL := Lib.hid hY
  clear hY
  go_wp2_with fail
  go_loopw [5, 6, 19] (fun pv tv iv wr => ∃ k : Nat, k ≤ Y ∧ iv = .int .i64 k ∧ ∃ N g : Nat, ∃ ta tc, N ≤ k ∧ pv = .pointer (some ⟨g, 0, none⟩) ∧ tv = .slice ta N tc ∧ Hid (∃ xs, AddInv w2 wr g (.slice ta N tc) xs ∧ xs.length = N)) (fun _ _ iv _ => Y - (intOf iv).toNat)
  case atStart => exact ⟨0, by omega, rfl, 0, g1, none, 0, by omega, rfl, rfl, by obtain ⟨xs, h1, _, h2⟩ := I2.out; exact ⟨xs, h1, h2⟩⟩
  case round =>
    obtain ⟨k, hk, rfl, N, g, ta, tc, hNk, rfl, rfl, hinv⟩ := hrel
    obtain ⟨xs, hin, hxl⟩ := hinv.out
    have HIN := Lib.hid hin; have HXL := Lib.hid hxl
    clear hin hxl hinv I2
    by_cases hlt : k < Y
    · have l1 : (k : Int) < (Y : Int) := by omega
      have l0 : (0 : Int) ≤ (k : Int) := by omega
      obtain ⟨gy, oy, rfl, _, hcell⟩ := (HY.out.kept HIN.out.kept (fun _ _ h => h)).at (k := k) (by have := HYL.out; omega)
      have hs13 : (ys.getD k ⟨#[]⟩).size ≤ 13 := by
        have hk2 : k < ys.length := by have := HYL.out; omega
        exact HYS.out _ (by simp [List.getD, hk2])
      generalize ys.getD k ⟨#[]⟩ = s at hcell hs13
      have hchk := rcheck_any _ xs s most wr (strs_own HIN.out.row) (by have := HXL.out; omega)
      have HCK := Lib.hid hchk
      clear hchk
      by_cases hr : refS xs s most = 0
      · have hck := HCK.out
        rw [hr] at hck
        have HCK2 := Lib.hid hck
        have HR := Lib.hid hr
        clear hck HCK hr
        go_wp2_with fail
        refine HCK2.out.mono ?_
        rintro e w3 ⟨rfl, k3⟩
        have HI3 := Lib.hid (HIN.out.on k3)
        clear k3
        obtain ⟨v, m, n, D, ht, _⟩ := HI3.out.tab
        have HT := Lib.hid ht
        clear ht
        go_wp2_with fail
        refine (add_ok s most w3 g xs v m n D HT.out HR.out).mono ?_
        rw [HXL.out]
        rintro e w4 ⟨g4, rfl, ⟨v4, m4, n4, D4, ht4, hv4, hm4⟩, hg4, k4⟩
        have hrow4 := k4.owns HI3.out.row (fun _ _ h => h)
        rw [HXL.out] at hrow4
        have HR4 := Lib.hid hrow4; have HT4 := Lib.hid ht4; have HV4 := Lib.hid hv4; have HK4 := Lib.hid k4
        have hsz4 : w2.heap.size ≤ w4.heap.size := (HI3.out.kept.then k4).size
        have hm1' : N + 1 ≤ maxLen := by unfold maxLen; omega
        have hm2' : (N + 1) * 16 ≤ 140737488355328 := by omega
        clear hrow4 ht4 hv4 k4 HCK2 HIN
        go_wp2_with (at_builtin; refine wpList_append_lies _ rfl _ _ _ rfl w2.heap.size 9 i0 _ 1 16 Try.underlying26 hi hz0 hz1 hz2 rfl (by omega) (.slice ta N tc) N _ rfl (HR4.out.alloc _) ⟨w4.heap.size, 0, none⟩ 1 1 [.string s] rfl rfl (World.news_of_block (cs := #[.string s]) (t := 9) (fr := (0, 0)) (heap_alloc_new w4 _)) (by simp [Value.oneCell']) (by omega) hm1' hm2' (by simp; omega) (w4.heap.size + 1) (by simp) ?_)
        intro gg cap w5 hown5 hgrow hat hgl
        have kp : Kept (blk (.slice ta N tc)) w4 w5 := (Kept.alloc (fun _ => False) w4 _).trans (Kept.ofGrown (S := blk (.slice ta N tc)) hgrow fun k e => e) (fun _ _ h => h.elim) (fun _ _ h => h)
        have hxl := HXL.out
        have hpush := HI3.out.push (s := s) (cap := cap) (gg := gg) (H := w4.heap.size + 1) HK4.out HT4.out hg4 hm4 HV4.out kp (by rw [hxl]; exact hown5) hat (by omega)
        rw [hxl] at hpush
        have HI5 : Hid (AddInv w2 w5 g4 (.slice (some ⟨gg, 0, none⟩) (N + 1) cap) (xs ++ [s])) := hpush
        have hxl5 : (xs ++ [s]).length = N + 1 := by rw [List.length_append, hxl]; rfl
        have HXL5 := Lib.hid hxl5
        clear hown5 hgrow hat hgl kp hpush hxl hxl5 HT HT4 HV4 HR4 HI3 HK4 hg4 hm4
        obtain ⟨v5, m5, n5, D5, ht5, _⟩ := HI5.out.tab
        have HT5 := Lib.hid ht5
        clear ht5
        go_wp2_with fail
        refine (tlen_any w5 g4 _ v5 m5 n5 D5 HT5.out).mono ?_
        rw [HXL5.out]
        rintro e w6 ⟨rfl, rfl⟩
        go_wp2_with fail
        refine (tnames_any w5 g4 _ v5 m5 n5 D5 HT5.out).mono ?_
        rintro e w6 ⟨v6, rfl, hown6, k6⟩
        have HI6 := Lib.hid (HI5.out.on k6)
        have HO6 := Lib.hid (strs_own hown6)
        clear hown6 k6 HT5
        go_wp2_with fail
        refine (rsame8_any v6 _ _ _ w6 HO6.out (strs_own HI6.out.row)).mono ?_
        rw [show decide (xs ++ [s] = xs ++ [s]) = true by simp]
        rintro e w7 ⟨rfl, k7⟩
        have HI7 : Hid (∃ xs, AddInv w2 w7 g4 (.slice (some ⟨gg, 0, none⟩) (N + 1) cap) xs ∧ xs.length = N + 1) := ⟨_, HI6.out.on k7, HXL5.out⟩
        clear k7 HO6 HI6 HI5
        go_wp2_with fail
        go_roundw
        case rel => first | exact ⟨k + 1, by omega, by go_num, N + 1, g4, _, _, by omega, rfl, rfl, HI7⟩ | ((repeat apply Exists.intro); exact ⟨⟨k + 1, by omega, by go_num, N + 1, g4, _, _, by omega, rfl, rfl, HI7⟩, rfl⟩)
        case measure => simp [intOf]; omega
      · have HR := Lib.hid hr
        have hadd := fun (w3 : World) (v : Value) (m n : Nat) (D : DataW Unit) (ht : TabAt w3 g xs v m n D) => add_no s most w3 g xs v m n D ht (by unfold maxLen; omega) HR.out
        obtain ⟨R, hRR⟩ : ∃ R, R = refS xs s most := ⟨_, rfl⟩
        have hck := HCK.out
        rw [← hRR] at hck hadd hr
        have HCK2 := Lib.hid hck; have HAD := Lib.hid hadd
        clear hck hadd HCK HR hRR
        go_wp2_with fail
        refine HCK2.out.mono ?_
        rintro e w3 ⟨rfl, k3⟩
        have HI3 := Lib.hid (HIN.out.on k3)
        clear k3
        obtain ⟨v, m, n, D, ht, _⟩ := HI3.out.tab
        have HT := Lib.hid ht
        clear ht
        go_wp2_with fail
        refine (HAD.out w3 v m n D HT.out).mono ?_
        rintro e w4 ⟨rfl, k4⟩
        have HI4 : Hid (∃ xs, AddInv w2 w4 g (.slice ta N tc) xs ∧ xs.length = N) := ⟨_, HI3.out.on k4, HXL.out⟩
        clear k4 HI3 HT HCK2 HAD HIN
        go_wp2_with fail
        go_roundw
        case rel => first | exact ⟨k + 1, by omega, by go_num, N, g, _, _, by omega, rfl, rfl, HI4⟩ | ((repeat apply Exists.intro); exact ⟨⟨k + 1, by omega, by go_num, N, g, _, _, by omega, rfl, rfl, HI4⟩, rfl⟩)
        case measure => simp [intOf]; omega
    · obtain rfl : k = Y := by omega
      obtain ⟨v, m, n, D, ht, _⟩ := HIN.out.tab
      have HT := Lib.hid ht
      clear ht
      go_wp2_with fail
      refine (tlen_any wr g xs v m n D HT.out).mono ?_
      rw [HXL.out]
      rintro e w6 ⟨rfl, rfl⟩
      go_wp2_with fail
      go_ret
      exact ⟨rfl, K2.out.then HIN.out.kept⟩
end Go.Proofs.Ytklannnhblmdoaa
