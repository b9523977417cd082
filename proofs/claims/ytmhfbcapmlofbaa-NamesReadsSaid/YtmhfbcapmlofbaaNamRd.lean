/-
  names.Read: the table of bytes, or none.
-/
import Derived.Test.YtmhfbcapmlofbaaNamRm
import Derived.Laws.OwnMore
namespace Go.Proofs.Ytmhfbcapmlofbaa
open Go.RowKit

theorem countS_le (p : List Nat) : (countS p 256 0).1 ≤ 256 := by
  rw [countS, if_pos rfl]
  unfold boundedS
  repeat' split
  all_goals first | exact Nat.zero_le _ | (simp only; omega)
theorem piece_short (xs : List Nat) (err : Int) : (pieceS xs 12 err).1.length ≤ 12 := by
  unfold pieceS
  repeat' split
  all_goals first | exact Nat.zero_le _ | (simp only [List.length_take, List.length_drop]; omega)
theorem strsK_short (xs : List Nat) (err : Int) : ∀ k, ∀ x ∈ (strsK xs err k).1, x.size ≤ 12
  | 0, x, hx => by simp [strsK] at hx
  | k + 1, x, hx => by
    rw [strsK] at hx
    rcases List.mem_append.1 hx with h | h
    · exact strsK_short xs err k x h
    · rw [List.mem_singleton] at h
      rw [h, strOf_size]
      exact piece_short _ _

set_option maxRecDepth 100000 in
set_option maxHeartbeats 800000 in
theorem rcount_any (w : World) (rb : Nat) (v : Value) (xs : List Nat) (h : Rd w rb v xs 0) (hby : ∀ b ∈ xs, b < 256) :
    Calls Try.prog 39 #[.pointer (some ⟨rb, 0, none⟩), .int .i64 256] w fun e w' => e = .returned (.int .i64 (countS xs 256 0).1) ∧
      ∃ v', Rd w' rb v' (countS xs 256 0).2.1 (countS xs 256 0).2.2 ∧ v'.ownBlock = v.ownBlock ∧ Kept (fun k => k = rb) w w' := by
  have hrf := readyFor_any w rb v xs 0 256 h
  rw [show forErr 256 0 = 0 from if_neg (by omega), show decide ((0 : Int) = 0) = true from rfl] at hrf
  have HB := Lib.hid (fun (W : World) (hr : Rd W rb v xs 0) => bounded_any W rb v xs 0 3 256 hr hby)
  have hle := countS_le xs
  rw [show countS xs 256 0 = boundedS xs 256 3 0 from if_pos rfl] at hle ⊢
  have HRF := Lib.hid hrf
  clear hrf h hby
  generalize boundedS xs 256 3 0 = q at HB hle ⊢
  obtain ⟨n, left, er⟩ := q
  simp only at HB hle ⊢
  have hw : IntKind.i64.wrap (n : Int) = (n : Int) := IntWalk.i64_in _ (by omega)
  go_enter Try.func39, Try.ntmps39
  go_wp2_with fail
  refine HRF.out.mono ?_
  rintro e w1 ⟨rfl, hr1, hk1⟩
  have HR1 := Lib.hid hr1; have HK1 := Lib.hid hk1
  clear hr1 hk1
  go_wp2_with fail
  refine (HB.out w1 HR1.out).mono ?_
  rintro e w2 ⟨rfl, v', hr, hv, hk⟩
  have HV := Lib.hid hv; have HR := Lib.hid hr
  have HK := Lib.hid (HK1.out.trans hk (T := fun k => k = rb) (fun _ _ h => h) (fun _ _ h => h))
  clear hv hr hk
  go_wp2_with fail
  go_ret
  exact ⟨rfl, v', HR.out, HV.out, HK.out⟩

/-- The strings that stand in Read's row behind k rounds. -/
def rowK (xs : List Nat) (err : Int) (n k : Nat) : List ByteArray := (strsK xs err k).1 ++ List.replicate (n - k) ⟨#[]⟩
theorem rowK_length (xs : List Nat) (err : Int) (n k : Nat) (h : k ≤ n) : (rowK xs err n k).length = n := by
  rw [rowK, List.length_append, strsK_length, List.length_replicate]; omega
theorem rowK_set (xs : List Nat) (err : Int) (n k : Nat) (h : k < n) : (rowK xs err n k).set k (strOf (pieceS (strsK xs err k).2.1 12 (strsK xs err k).2.2).1) = rowK xs err n (k + 1) := by
  have hl := strsK_length xs err k
  rw [rowK, rowK, strsK]
  simp only
  rw [List.set_append_right _ _ (by omega), hl, Nat.sub_self, show n - k = (n - (k + 1)) + 1 by omega, List.replicate_succ, List.set_cons_zero, List.append_assoc]
  rfl
theorem rowK_all (xs : List Nat) (err : Int) (n : Nat) : rowK xs err n n = (strsK xs err n).1 := by simp [rowK]
theorem sv_zero (n : Nat) : (madeCells #[Value.string ⟨#[]⟩] n).toList = (List.replicate n (⟨#[]⟩ : ByteArray)).map Value.string := by
  refine List.ext_getElem (by simp [madeCells]) fun i h1 h2 => ?_
  simp [madeCells, Nat.mod_one]

/-- What Read's loop keeps. -/
structure RdI (w wr : World) (rb gl : Nat) (xs : List Nat) (err : Int) (n k : Nat) : Prop where
  rd : ∃ v, Rd wr rb v (strsK xs err k).2.1 (strsK xs err k).2.2 ∧ (∀ j, v.ownBlock = some j → w.heap.size ≤ j ∧ j ≠ gl)
  row : wr.ownsRow w.heap.size 9 1 (.slice (some ⟨gl, 0, none⟩) n n) n ((rowK xs err n k).map Value.string)
  kept : Kept (fun _ => False) w wr
  rge : w.heap.size ≤ rb
  ne : gl ≠ rb

set_option maxRecDepth 100000 in
set_option maxHeartbeats 3200000 in
theorem nread_any (v : Value) (p : List Nat) (w : World) (h : Reads w v p) (hby : ∀ b ∈ p, b < 256) (hl : p.length ≤ 1000000) :
    Calls Try.prog 17 #[v] w fun e w' =>
      (readS p = none ∧ e = .returned (.tuple #[.pointer none, .int .i64 6]) ∧ Kept (fun _ => False) w w') ∨
      (∃ xs g, readS p = some xs ∧ e = .returned (.tuple #[.pointer (some ⟨g, 0, none⟩), .int .i64 0]) ∧ OfInv w w' g xs) := by
  obtain ⟨i0, hi, hz0, hz1, hz2⟩ := info_parts info_str
  have hNR := newReader_any w v p h (by omega)
  have HNR := Lib.hid hNR
  have HRS : Hid (readS p = if ofS 256 [] (strsK (countS p 256 0).2.1 (countS p 256 0).2.2 (countS p 256 0).1).1 = (0, (strsK (countS p 256 0).2.1 (countS p 256 0).2.2 (countS p 256 0).1).1) ∧
      (strsK (countS p 256 0).2.1 (countS p 256 0).2.2 (countS p 256 0).1).2.2 = 0 ∧ (strsK (countS p 256 0).2.1 (countS p 256 0).2.2 (countS p 256 0).1).2.1 = []
      then some (strsK (countS p 256 0).2.1 (countS p 256 0).2.2 (countS p 256 0).1).1 else none) := rfl
  have HC := Lib.hid (fun (W : World) (rb : Nat) (u : Value) (hr : Rd W rb u p 0) => rcount_any W rb u p hr hby)
  have hcl := countS_le p
  have hcb : ∀ b ∈ (countS p 256 0).2.1, b < 256 := by
    intro b hb
    rw [countS, if_pos rfl] at hb
    unfold boundedS at hb
    by_cases h1 : (numberS p).2 = 0
    · rw [if_pos h1] at hb; exact hby b hb
    · rw [if_neg h1] at hb
      by_cases h2 : 256 < (numberS p).1
      · rw [if_pos h2] at hb; exact hby b hb
      · rw [if_neg h2] at hb; exact hby b (List.mem_of_mem_drop hb)
  obtain ⟨R, hR⟩ : ∃ R, R = readS p := ⟨_, rfl⟩
  rw [← hR] at HRS ⊢
  obtain ⟨a, n0, c, hvf⟩ : ∃ a n c, v = .slice a n c := by
    rcases h with ⟨rfl, _⟩ | ⟨g, off, cap, rfl, _⟩
    · exact ⟨_, _, _, rfl⟩
    · exact ⟨_, _, _, rfl⟩
  subst hvf
  clear hNR h hby hR hl
  generalize countS p 256 0 = q at HRS HC hcl hcb
  obtain ⟨n, xs, er⟩ := q
  simp only at HRS HC hcl hcb
  have HB := Lib.hid hcb
  clear hcb
  go_enter Try.func17, Try.ntmps17
  go_wp2_with fail
  refine HNR.out.mono ?_
  rintro e w1 ⟨rb, v1, rfl, hrd1, hge1, hv1, hk1⟩
  have HR1 := Lib.hid hrd1; have HV1 := Lib.hid hv1; have HK1 := Lib.hid hk1
  clear hrd1 hv1 hk1
  go_wp2_with fail
  refine (HC.out w1 rb v1 HR1.out).mono ?_
  rintro e w2 ⟨rfl, v2, hrd2, hv2, hk2⟩
  have HV2 : Hid (∀ j, v2.ownBlock = some j → w.heap.size ≤ j) := fun j hj => HV1.out j (by rw [← hv2]; exact hj)
  have HR2 := Lib.hid hrd2
  have HK2 : Hid (Kept (fun _ => False) w w2) := HK1.out.trans hk2 (fun _ _ h => h) (fun i hi e => by omega)
  have hsz2 := HK2.out.size
  have hrl2 := hrd2.lt
  clear hrd2 hv2 hk2 HR1 HV1 HK1 HC HNR
  go_wp2_with (refine wpList_make_full _ rfl _ _ _ rfl w2.heap.size 9 i0 _ 1 Try.underlying23 hi hz0 hz1 _ _ _ _ n rfl rfl rfl rfl (by rw [hz2]; omega) (by unfold maxLen; omega) (by simp) ?_)
  intro w3 hown3 hgrow3
  have HI3 : Hid (RdI w w3 rb w2.heap.size xs er n 0) := by
    have hk3 : Kept (fun _ => False) w2 w3 := Kept.ofGrown (S := fun _ => False) hgrow3 (fun k e => by cases e)
    refine ⟨⟨v2, HR2.out.kept hk3 (fun h => h) (fun _ _ h => h), fun j hj => ⟨HV2.out j hj, fun e => by have := HR2.out.reads.lt j hj; omega⟩⟩, ?_, HK2.out.then hk3, hge1, by omega⟩
    rw [sv_zero] at hown3
    have : rowK xs er n 0 = List.replicate n ⟨#[]⟩ := by simp [rowK, strsK]
    rw [this]
    exact Go.Joins.ownsRow_le hown3 hsz2
  clear hown3 hgrow3 HR2 HV2 HK2
  generalize w2.heap.size = gl at HI3 ⊢
  go_wp2_with fail
  go_loopw [16] (fun iv wr => ∃ k : Nat, k ≤ n ∧ iv = .int .i64 k ∧ Hid (RdI w wr rb gl xs er n k)) (fun iv _ => n - (intOf iv).toNat)
  case atStart => exact ⟨0, by omega, rfl, HI3⟩
  case round =>
    obtain ⟨k, hk, rfl, hinv⟩ := hrel
    obtain ⟨u, hrd, hub⟩ := hinv.out.rd
    have HIN := Lib.hid hinv.out; have HRD := Lib.hid hrd; have HUB := Lib.hid hub
    clear hinv hrd hub HI3
    by_cases hlt : k < n
    · have l1 : (k : Int) < (n : Int) := by omega
      have l0 : (0 : Int) ≤ (k : Int) := by omega
      have hkb := strsK_byte er HB.out k
      have hstr := rstring_any wr rb u (strsK xs er k).2.1 (strsK xs er k).2.2 12 HRD.out hkb (by show (12 : Int) < 9223372036854775808; omega)
      have hset := rowK_set xs er n k hlt
      have hnext : strsK xs er (k + 1) = ((strsK xs er k).1 ++ [strOf (pieceS (strsK xs er k).2.1 12 (strsK xs er k).2.2).1], (pieceS (strsK xs er k).2.1 12 (strsK xs er k).2.2).2.1, (pieceS (strsK xs er k).2.1 12 (strsK xs er k).2.2).2.2) := rfl
      have HS := Lib.hid hset; have HN := Lib.hid hnext
      clear hset hnext hkb
      generalize pieceS (strsK xs er k).2.1 12 (strsK xs er k).2.2 = q at hstr HS HN
      have HSTR := Lib.hid hstr
      clear hstr
      go_wp2_with fail
      refine HSTR.out.mono ?_
      rintro e w4 ⟨rfl, u4, hrd4, hu4, hk4⟩
      have hrow4 := hk4.owns HIN.out.row (fun j hj e => by simp [Value.ownBlock] at hj; have := HIN.out.ne; omega)
      have hc4 : w4.cell? ⟨gl, k, none⟩ = some (.string ((rowK xs er n k).getD k ⟨#[]⟩)) := by
        rw [hrow4.cellAt k (by omega)]
        have := rowK_length xs er n k hk
        simp [List.getD, show k < (rowK xs er n k).length by omega]
      have hf4 := hrow4.frozenAt k
      generalize (rowK xs er n k).getD k ⟨#[]⟩ = old at hc4
      have HI4 : Hid (RdI w (w4.setCell ⟨gl, k, none⟩ (.string (strOf q.1))) rb gl xs er n (k + 1)) := by
        have hkk : Kept (fun j => j = gl) w4 (w4.setCell ⟨gl, k, none⟩ (.string (strOf q.1))) := Kept.setCell _ _ _ _ rfl
        have hne := HIN.out.ne
        have hgl : w.heap.size ≤ gl := by have := (HIN.out.row.lt gl (by simp [Value.ownBlock])).1; exact this
        refine ⟨⟨u4, ?_, fun j hj => HUB.out j (by rw [← hu4]; exact hj)⟩, ?_, (HIN.out.kept.trans hk4 (fun _ _ h => h) (fun i hi e => by have := HIN.out.rge; omega)).trans hkk (fun _ _ h => h) (fun i hi e => by omega), HIN.out.rge, hne⟩
        · rw [HN.out]
          exact hrd4.kept hkk (fun e => hne e.symm) (fun j hj e => (HUB.out j (by rw [← hu4]; exact hj)).2 e)
        · have hst := (hrow4.stored k (.string (strOf q.1))).1
          rw [← HS.out, List.map_set]
          exact hst
      have HC4 := Lib.hid hc4; have HF4 := Lib.hid hf4
      clear hrd4 hu4 hk4 hrow4 HIN HRD HUB HSTR HS HN hc4 hf4
      have c4 := HC4.out
      have f4 := HF4.out
      go_wp2_with fail
      go_roundw
      case rel => exact ⟨k + 1, by omega, by go_num, HI4⟩
      case measure => simp [intOf]; omega
    · obtain rfl : k = n := by omega
      have hys := strs_own (B := w.heap.size) (w := wr) (v := .slice (some ⟨gl, 0, none⟩) k k) (xs := (strsK xs er k).1) (by have := HIN.out.row; rw [rowK_all] at this; rwa [strsK_length])
      have hshort := strsK_short xs er k
      have HOF := Lib.hid (tof_any _ (strsK xs er k).1 256 wr hys (fun x hx => by have := hshort x hx; omega))
      generalize strsK xs er k = q at HRS HOF HRD
      obtain ⟨ys, left, er2⟩ := q
      simp only at HRS HOF HRD
      have HKW := Lib.hid HIN.out.kept
      have HRG := Lib.hid HIN.out.rge
      clear hys hshort HIN hlt
      go_wp2_with fail
      refine HOF.out.mono ?_
      rintro e w5 (⟨hne, rfl, k5⟩ | ⟨heq, g, rfl, hof⟩)
      · have hRn : R = none := by
          rw [HRS.out, if_neg (fun hh => hne (by rw [hh.1]))]
        have HRN := Lib.hid hRn
        have K5 := Lib.hid (HKW.out.then k5)
        clear hRn k5 HOF
        generalize (ofS 256 [] ys).1 = E at hne
        go_wp2_with fail
        go_ret2
        exact Or.inl ⟨HRN.out, rfl, K5.out⟩
      · have HEQ := Lib.hid heq; have HO := Lib.hid hof
        have hend := end_any w5 rb u left er2 (HRD.out.kept hof.kept (fun h => h) (fun _ _ h => h))
        have HK5 := Lib.hid (HKW.out.then hof.kept)
        clear heq hof HOF
        by_cases hz : er2 = 0 ∧ left = []
        · obtain ⟨rfl, rfl⟩ := hz
          have hRs : R = some ys := by rw [HRS.out, if_pos ⟨HEQ.out, rfl, rfl⟩]
          rw [if_neg (by simp)] at hend
          have HE := Lib.hid hend; have HRV := Lib.hid hRs
          clear hend hRs
          go_wp2_with fail
          refine HE.out.mono ?_
          rintro e w6 ⟨rfl, rfl⟩
          go_wp2_with fail
          go_ret2
          refine Or.inr ⟨ys, g, HRV.out, rfl, ?_⟩
          obtain ⟨tv, tm, tn, tD, ht, h1, h2⟩ := HO.out.tab
          have hsz := HKW.out.size
          exact ⟨⟨tv, tm, tn, tD, ht, fun j hj => Nat.le_trans hsz (h1 j hj), Nat.le_trans hsz h2⟩, Nat.le_trans hsz HO.out.ge, HK5.out⟩
        · have hRn : R = none := by rw [HRS.out, if_neg (fun hh => hz hh.2)]
          obtain ⟨E, hE⟩ : ∃ E, E = (if er2 = 0 ∧ 0 < left.length then 6 else er2) := ⟨_, rfl⟩
          have hE0 : E ≠ 0 := by
            rw [hE]
            by_cases h1 : er2 = 0
            · have : left ≠ [] := fun e => hz ⟨h1, e⟩
              rw [if_pos ⟨h1, List.length_pos_iff.2 this⟩]; decide
            · rw [if_neg (fun h => h1 h.1)]; exact h1
          rw [← hE] at hend
          have HE := Lib.hid hend; have HRN := Lib.hid hRn
          clear hend hRn hE hz
          go_wp2_with fail
          refine HE.out.mono ?_
          rintro e w6 ⟨rfl, rfl⟩
          go_wp2_with fail
          go_ret2
          exact Or.inl ⟨HRN.out, rfl, HK5.out⟩
end Go.Proofs.Ytmhfbcapmlofbaa
