/-
  names.Of and the reference's Of; arbaclaw08.NamesOf returns true.
-/
import Derived.Test.YtmhfbcapmlofbaaNamAd
namespace Go.Proofs.Ytmhfbcapmlofbaa
open Go.RowKit

/-- Names that are added one after the other: the first error, and the names. -/
def ofS (most : Int) : List ByteArray → List ByteArray → Int × List ByteArray
  | xs, [] => (0, xs)
  | xs, y :: ys => if refS xs y most = 0 then ofS most (xs ++ [y]) ys else (refS xs y most, [])
theorem ofS_take {most : Int} {ys : List ByteArray} {k : Nat} (hk : k < ys.length) (h : ofS most [] ys = ofS most (ys.take k) (ys.drop k)) (hr : refS (ys.take k) (ys.getD k ⟨#[]⟩) most = 0) :
    ofS most [] ys = ofS most (ys.take (k + 1)) (ys.drop (k + 1)) := by
  have hg : ys.getD k ⟨#[]⟩ = ys[k] := by simp [List.getD, hk]
  rw [h, List.drop_eq_getElem_cons hk, ofS, ← hg, if_pos hr, hg, List.take_succ_eq_append_getElem hk]
theorem ofS_stop {most : Int} {ys : List ByteArray} {k : Nat} (hk : k < ys.length) (h : ofS most [] ys = ofS most (ys.take k) (ys.drop k)) (hr : refS (ys.take k) (ys.getD k ⟨#[]⟩) most ≠ 0) :
    ofS most [] ys = (refS (ys.take k) (ys.getD k ⟨#[]⟩) most, []) := by
  have hg : ys.getD k ⟨#[]⟩ = ys[k] := by simp [List.getD, hk]
  rw [h, List.drop_eq_getElem_cons hk, ofS, ← hg, if_neg hr]
theorem ofS_all {most : Int} {ys : List ByteArray} (h : ofS most [] ys = ofS most (ys.take ys.length) (ys.drop ys.length)) : ofS most [] ys = (0, ys) := by
  rw [h, List.take_length, List.drop_length, ofS]

/-- What Of's loop keeps: the table of the names so far, all of it new. -/
structure OfInv (w wr : World) (g : Nat) (xs : List ByteArray) : Prop where
  tab : ∃ v m n D, TabAt wr g xs v m n D ∧ (∀ k, v.ownBlock = some k → w.heap.size ≤ k) ∧ w.heap.size ≤ m
  ge : w.heap.size ≤ g
  kept : Kept (fun _ => False) w wr
theorem OfInv.on {w w1 w2 : World} {g : Nat} {xs : List ByteArray} (h : OfInv w w1 g xs) (hk : Kept (fun _ => False) w1 w2) : OfInv w w2 g xs := by
  obtain ⟨v, m, n, D, ht, h1, h2⟩ := h.tab
  exact ⟨⟨v, m, n, D, ht.stay hk, h1, h2⟩, h.ge, h.kept.then hk⟩

set_option maxRecDepth 100000 in
set_option maxHeartbeats 1600000 in
theorem tof_any (v : Value) (ys : List ByteArray) (most : Int) (w : World) (h : Strs w v ys) (hs : ∀ x ∈ ys, x.size ≤ 1000000) :
    Calls Try.prog 14 #[v, .int .i64 most] w fun e w' =>
      ((ofS most [] ys).1 ≠ 0 ∧ e = .returned (.tuple #[.pointer none, .int .i64 (ofS most [] ys).1]) ∧ Kept (fun _ => False) w w') ∨
      (ofS most [] ys = (0, ys) ∧ ∃ g, e = .returned (.tuple #[.pointer (some ⟨g, 0, none⟩), .int .i64 0]) ∧ OfInv w w' g ys) := by
  obtain ⟨a, c, rfl, hc, hm⟩ := h.form
  unfold maxLen at hm
  have HS := Lib.hid h; have HSZ := Lib.hid hs
  obtain ⟨n, hn⟩ : ∃ n, n = ys.length := ⟨_, rfl⟩
  have hnb : n ≤ 9223372036854775807 := by omega
  rw [← hn] at HS ⊢
  have HN := Lib.hid hn
  obtain ⟨R, hR⟩ : ∃ R, R = ofS most [] ys := ⟨_, rfl⟩
  rw [← hR]
  have HR := Lib.hid hR
  clear h hs hn hR hc hm
  go_enter Try.func14, Try.ntmps14
  go_wp2_with fail
  refine (tnew_any w).mono ?_
  rintro e w1 ⟨rfl, ht1, k1, _⟩
  have I1 : Hid (OfInv w w1 (w.heap.size + 1) (ys.take 0)) := ⟨⟨_, _, _, _, ht1, by intro k hk; simp [Value.ownBlock] at hk, Nat.le_refl _⟩, by omega, k1⟩
  clear ht1 k1
  generalize w.heap.size + 1 = g at I1 ⊢
  go_wp2_with fail
  have H0 : Hid (ofS most [] ys = ofS most (ys.take 0) (ys.drop 0)) := by rw [List.take_zero, List.drop_zero]; exact rfl
  go_loopw [13] (fun iv wr => ∃ k : Nat, k ≤ n ∧ iv = .int .i64 k ∧ Hid (ofS most [] ys = ofS most (ys.take k) (ys.drop k)) ∧ Hid (OfInv w wr g (ys.take k))) (fun iv _ => n - (intOf iv).toNat)
  case atStart => exact ⟨0, by omega, rfl, H0, I1⟩
  case round =>
    obtain ⟨k, hk, rfl, hof, hinv⟩ := hrel
    by_cases hlt : k < n
    · have l1 : (k : Int) < (n : Int) := by omega
      have l0 : (0 : Int) ≤ (k : Int) := by omega
      have hkl : k < ys.length := by have := HN.out; omega
      obtain ⟨gy, oy, rfl, _, hcell⟩ := (HS.out.kept hinv.out.kept (fun _ _ h => h)).at (k := k) hkl
      have hsz : (ys.getD k ⟨#[]⟩).size ≤ 1000000 := HSZ.out _ (by simp [List.getD, hkl])
      have hstop := ofS_stop (most := most) hkl hof.out
      have hnext := ofS_take (most := most) hkl hof.out
      have htk : ys.take (k + 1) = ys.take k ++ [ys.getD k ⟨#[]⟩] := by rw [List.take_succ_eq_append_getElem hkl]; simp [List.getD, hkl]
      have hxl : (ys.take k).length = k := by rw [List.length_take]; omega
      obtain ⟨tv, tm, tn, tD, htab, htv, htm⟩ := hinv.out.tab
      obtain ⟨s, hs⟩ : ∃ s, s = ys.getD k ⟨#[]⟩ := ⟨_, rfl⟩
      rw [← hs] at hcell hsz hstop hnext htk
      have href := refuses_any s most wr g (ys.take k) tv tm tn tD htab (by unfold maxLen; omega)
      have HIN := Lib.hid hinv.out; have HTK := Lib.hid htk; have HXL := Lib.hid hxl; have HT := Lib.hid htab; have HTV := Lib.hid htv
      clear hinv hof htab htv htk hxl hkl hs I1 H0
      generalize ys.take k = xs at *
      by_cases hr : refS xs s most = 0
      · obtain ⟨h12, h0, _, _⟩ := refS_ok hr
        have hlt256 := (refS_ok hr).2.2.1
        rw [hr] at href
        have HREF := Lib.hid href; have HNX := Lib.hid (hnext hr); have H0 := Lib.hid h0
        clear href hstop hnext hr h0
        go_wp2_with fail
        refine HREF.out.mono ?_
        rintro e w2 ⟨rfl, k2⟩
        have HI2 := Lib.hid (HIN.out.on k2)
        have HT2 := Lib.hid (HT.out.stay k2)
        clear k2
        go_wp2_with fail
        refine (put_any8 s w2 g xs tv tm tn tD HT2.out h12 H0.out hlt256).mono ?_
        rintro e w3 ⟨rfl, v3, D3, ht3, hat3, k3⟩
        have HI3 : Hid (OfInv w w3 g (ys.take (k + 1))) := by
          rw [HTK.out]
          refine ⟨⟨v3, tm, _, D3, ht3, fun j hj => ?_, htm⟩, HI2.out.ge, HI2.out.kept.trans k3 (fun _ _ h => h) (fun i hi e => ?_)⟩
          · rcases hat3 with h | h
            · rw [h] at hj; exact HTV.out j hj
            · have := h j hj; have := HI2.out.kept.size; omega
          · rcases e with e | e | e
            · have := HI2.out.ge; omega
            · omega
            · have := HTV.out i e; omega
        clear ht3 hat3 k3
        go_wp2_with fail
        go_roundw
        case rel => exact ⟨k + 1, by omega, by go_num, HNX, HI3⟩
        case measure => simp [intOf]; omega
      · have hst := hstop hr
        have hRs : R = (refS xs s most, []) := by rw [HR.out]; exact hst
        have HRS := Lib.hid hRs; have HNZ := Lib.hid hr
        clear hstop hnext hst hRs
        generalize refS xs s most = q at href HRS HNZ hr
        have HREF := Lib.hid href
        clear href
        go_wp2_with fail
        refine HREF.out.mono ?_
        rintro e w2 ⟨rfl, k2⟩
        have HK2 := Lib.hid (HIN.out.kept.then k2)
        clear k2
        go_wp2_with fail
        go_ret2
        exact Or.inl ⟨by rw [HRS.out]; exact HNZ.out, by rw [HRS.out]; rfl, HK2.out⟩
    · obtain rfl : k = n := by omega
      have hall : R = (0, ys) := by
        have h := hof.out
        rw [HN.out] at h
        rw [HR.out]; exact ofS_all h
      have hfin : OfInv w wr g ys := by
        have h := hinv.out
        rwa [HN.out, List.take_length] at h
      have HALL := Lib.hid hall; have HF := Lib.hid hfin
      clear hall hfin hof hinv
      go_wp2_with fail
      go_ret2
      exact Or.inr ⟨HALL.out, g, rfl, HF.out⟩

set_option maxRecDepth 100000 in
set_option maxHeartbeats 1600000 in
theorem rof_any (v : Value) (ys : List ByteArray) (most : Int) (w : World) (h : Strs w v ys) :
    Calls Try.prog 20 #[v, .int .i64 most] w fun e w' =>
      ((ofS most [] ys).1 ≠ 0 ∧ e = .returned (.tuple #[.slice none 0 0, .int .i64 (ofS most [] ys).1]) ∧ Kept (fun _ => False) w w') ∨
      (ofS most [] ys = (0, ys) ∧ ∃ v', e = .returned (.tuple #[v', .int .i64 0]) ∧ WdInv w w' v' ys) := by
  obtain ⟨i0, hi, hz0, hz1, hz2⟩ := info_parts info_str
  obtain ⟨a, c, rfl, hc, hm⟩ := h.form
  unfold maxLen at hm
  have HS := Lib.hid h
  obtain ⟨n, hn⟩ : ∃ n, n = ys.length := ⟨_, rfl⟩
  have hnb : n ≤ 9223372036854775807 := by omega
  rw [← hn] at HS ⊢
  have HN := Lib.hid hn
  obtain ⟨R, hR⟩ : ∃ R, R = ofS most [] ys := ⟨_, rfl⟩
  rw [← hR]
  have HR := Lib.hid hR
  clear h hn hR hc hm
  have H0 : Hid (ofS most [] ys = ofS most (ys.take 0) (ys.drop 0)) := by rw [List.take_zero, List.drop_zero]; exact rfl
  have I1 : Hid (WdInv w w (.slice none 0 0) (ys.take 0)) := ⟨World.ownsRow_nil _ _ _ _, Kept.refl _ _⟩
  go_enter Try.func20, Try.ntmps20
  go_wp2_with fail
  go_loopw [6, 12] (fun tv iv wr => ∃ k : Nat, k ≤ n ∧ k ≤ 256 ∧ iv = .int .i64 k ∧ Hid (ofS most [] ys = ofS most (ys.take k) (ys.drop k)) ∧ Hid (WdInv w wr tv (ys.take k))) (fun _ iv _ => n - (intOf iv).toNat)
  case atStart => exact ⟨0, by omega, by omega, rfl, H0, I1⟩
  case round =>
    obtain ⟨k, hk, hk256, rfl, hof, hinv⟩ := hrel
    have hxl : (ys.take k).length = k := by rw [List.length_take]; have := HN.out; omega
    have hrow := hinv.out.row
    rw [hxl] at hrow
    obtain ⟨va, vc, hvf⟩ : ∃ va vc, u6 = .slice va k vc := by
      rcases Go.Joins.ownsRow_forms hrow with ⟨h1, h2⟩ | ⟨g', cap, h1⟩
      · exact ⟨_, _, by rw [h1, h2]⟩
      · exact ⟨_, _, h1⟩
    subst hvf
    have HRO := Lib.hid hrow
    clear hrow
    by_cases hlt : k < n
    · have l1 : (k : Int) < (n : Int) := by omega
      have l0 : (0 : Int) ≤ (k : Int) := by omega
      have hkl : k < ys.length := by have := HN.out; omega
      obtain ⟨gy, oy, rfl, _, hcell⟩ := (HS.out.kept hinv.out.kept (fun _ _ h => h)).at (k := k) hkl
      have hstop := ofS_stop (most := most) hkl hof.out
      have hnext := ofS_take (most := most) hkl hof.out
      have htk : ys.take (k + 1) = ys.take k ++ [ys.getD k ⟨#[]⟩] := by rw [List.take_succ_eq_append_getElem hkl]; simp [List.getD, hkl]
      obtain ⟨s, hs⟩ : ∃ s, s = ys.getD k ⟨#[]⟩ := ⟨_, rfl⟩
      rw [← hs] at hcell hstop hnext htk
      have hchk := rcheck_any _ (ys.take k) s most wr (strs_own hinv.out.row) (by omega)
      have HIN := Lib.hid hinv.out; have HTK := Lib.hid htk; have HXL := Lib.hid hxl
      clear hinv hof htk hkl hs I1 H0
      generalize ys.take k = xs at *
      by_cases hr : refS xs s most = 0
      · have hlt256 := (refS_ok hr).2.2.1
        rw [hr] at hchk
        have HREF := Lib.hid hchk; have HNX := Lib.hid (hnext hr)
        clear hchk hstop hnext hr
        have hm1 : k + 1 ≤ maxLen := by unfold maxLen; omega
        have hm2 : (k + 1) * 16 ≤ 140737488355328 := by omega
        have hk1 : k + 1 ≤ 256 := by omega
        clear hxl hlt256
        go_wp2_with fail
        refine HREF.out.mono ?_
        rintro e w2 ⟨rfl, k2⟩
        have HO2 := Lib.hid (k2.owns HRO.out (fun _ _ h => h))
        have HK2 := Lib.hid (HIN.out.kept.then k2)
        have hsz2 := HK2.out.size
        clear k2
        go_wp2_with (at_builtin; refine wpList_append_lies _ rfl _ _ _ rfl w.heap.size 9 i0 _ 1 16 Try.underlying23 hi hz0 hz1 hz2 rfl (by omega) (.slice va k vc) k _ rfl (HO2.out.alloc _) ⟨w2.heap.size, 0, none⟩ 1 1 [.string s] rfl rfl (World.news_of_block (cs := #[.string s]) (t := 9) (fr := (0, 0)) (heap_alloc_new w2 _)) (by simp [Value.oneCell']) (by omega) hm1 hm2 (by simp; omega) (w2.heap.size + 1) (by simp) ?_)
        intro gg cap w3 hown3 hgrow hat hgl
        have kp : Kept (blk (.slice va k vc)) w2 w3 := (Kept.alloc (fun _ => False) w2 _).trans (Kept.ofGrown (S := blk (.slice va k vc)) hgrow fun k e => e) (fun _ _ h => h.elim) (fun _ _ h => h)
        have HI3 : Hid (WdInv w w3 (.slice (some ⟨gg, 0, none⟩) (k + 1) cap) (ys.take (k + 1))) := by
          refine ⟨?_, HK2.out.trans kp (fun _ _ h => h) (fun i hi e => by have := (HO2.out.lt i e).1; omega)⟩
          rw [HTK.out, List.length_append, HXL.out, List.map_append]
          exact hown3
        clear hown3 hgrow hat hgl kp
        go_wp2
        go_roundw
        case rel => exact ⟨k + 1, by omega, hk1, by go_num, HNX, HI3⟩
        case measure => simp [intOf]; omega
      · have hst := hstop hr
        have hRs : R = (refS xs s most, []) := by rw [HR.out]; exact hst
        have HRS := Lib.hid hRs; have HNZ := Lib.hid hr
        clear hstop hnext hst hRs hxl
        generalize refS xs s most = q at hchk HRS HNZ hr
        have HREF := Lib.hid hchk
        clear hchk
        go_wp2_with fail
        refine HREF.out.mono ?_
        rintro e w2 ⟨rfl, k2⟩
        have HK2 := Lib.hid (HIN.out.kept.then k2)
        clear k2
        go_wp2_with fail
        go_ret2
        exact Or.inl ⟨by rw [HRS.out]; exact HNZ.out, by rw [HRS.out]; rfl, HK2.out⟩
    · obtain rfl : k = n := by omega
      have hall : R = (0, ys) := by
        have h := hof.out
        rw [HN.out] at h
        rw [HR.out]; exact ofS_all h
      have hfin : WdInv w wr (.slice va k vc) ys := by
        have h := hinv.out
        rwa [show ys.take k = ys by rw [HN.out, List.take_length]] at h
      have HALL := Lib.hid hall; have HF := Lib.hid hfin
      clear hall hfin hof hinv hxl
      go_wp2_with fail
      go_ret2
      exact Or.inr ⟨HALL.out, _, rfl, HF.out⟩

end Go.Proofs.Ytmhfbcapmlofbaa
