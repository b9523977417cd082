/-
  The names of a path: arbacref07.split.
-/
import Derived.Test.YtndedphkgkmckaaDoorPaS
namespace Go.Proofs.YtndedphkgkmckaaDoor
open Go.RowKit
set_option linter.unusedSimpArgs false
set_option linter.unusedVariables false

theorem cutL_small : ∀ (l x : List UInt8), x ∈ cutL l → x.length ≤ l.length
  | [], x, h => by simp [cutL] at h; subst h; simp
  | c :: l, x, h => by
    have ih := cutL_small l
    by_cases hc : c = 47
    · subst hc
      rw [cutL_stroke] at h
      rcases List.mem_cons.1 h with rfl | h
      · simp
      · have := ih x h; simp only [List.length_cons]; omega
    · obtain ⟨y, t, e⟩ := cutL_cons l
      rw [cutL_char hc l y t e] at h
      rw [e] at ih
      rcases List.mem_cons.1 h with rfl | h
      · have := ih y (by simp); simp only [List.length_cons]; omega
      · have := ih x (List.mem_cons_of_mem _ h); simp only [List.length_cons]; omega

/-- What the reference's split answers. -/
structure RSplit (w w' : World) (s : ByteArray) (v : Value) : Prop where
  row : ∃ xs, Strs w' v xs ∧ xs.length ≤ 1000001 ∧ ∀ l, namesS s = some l → xs = l
  kept : Kept (fun _ => False) w w'
  own : ∀ k, v.ownBlock = some k → w.heap.size ≤ k

/-- The pieces before a place, and the one that is under way. -/
structure SpInv (W : World) (B : Nat) (ov : Value) (o : List ByteArray) (nm : ByteArray) (r : List UInt8) (k : Nat) : Prop where
  row : OwnS W B ov o
  cut : cutL (r.take k) = o.map (·.data.toList) ++ [nm.data.toList]
theorem SpInv.len {W : World} {B : Nat} {ov : Value} {o : List ByteArray} {nm : ByteArray} {r : List UInt8} {k : Nat} (h : SpInv W B ov o nm r k) : o.length ≤ r.length := by
  have h1 := congrArg List.length h.cut
  have h2 := cutL_len (r.take k)
  simp only [List.length_append, List.length_map, List.length_cons, List.length_nil] at h1
  rw [List.length_take] at h2
  omega

theorem SpInv.nm {W : World} {B : Nat} {ov : Value} {o : List ByteArray} {nm : ByteArray} {r : List UInt8} {k : Nat} (h : SpInv W B ov o nm r k) : nm.size ≤ r.length := by
  have h1 := cutL_small (r.take k) nm.data.toList (by rw [h.cut]; simp)
  rw [List.length_take] at h1
  have h2 : nm.size = nm.data.toList.length := rfl
  omega

theorem take_next (r : List UInt8) (k : Nat) (h : k < r.length) : r.take (k + 1) = r.take k ++ [r.getD k 0] := by
  rw [List.take_add_one, List.getD_eq_getElem?_getD, List.getElem?_eq_getElem h]
  rfl

theorem byte_at (s : ByteArray) (r : List UInt8) (h : s.data.toList = 47 :: r) (k : Nat) (hk : k < r.length) : bat s (k + 1) = (r.getD k 0).toNat ∧ (r.getD k 0 = 47 ↔ bat s (k + 1) = 47) := by
  have h1 : bat s (k + 1) = (r.getD k 0).toNat := by
    have hs : s.size = r.length + 1 := by show s.data.toList.length = _; rw [h]; rfl
    rw [bat_list s (k + 1) (by omega), h]
    simp [List.getD]
  refine ⟨h1, ?_⟩
  rw [h1]
  constructor
  · intro e; rw [e]; rfl
  · intro e; exact UInt8.toNat_inj.1 (by rw [e]; rfl)

theorem cat_data (a b : ByteArray) : (a ++ b).data.toList = a.data.toList ++ b.data.toList := by
  rw [ByteArray.data_append, Array.toList_append]
theorem one_data (s : ByteArray) (r : List UInt8) (h : s.data.toList = 47 :: r) (k : Nat) (hk : k < r.length) : (s.extract (k + 1) (k + 1 + 1)).data.toList = [r.getD k 0] := by
  rw [extract_list, h]
  have : (47 :: r : List UInt8).take (k + 1 + 1) = 47 :: (r.take k ++ [r.getD k 0]) := by rw [List.take_succ_cons, take_next r k hk]
  rw [this, List.drop_succ_cons, List.drop_append_of_le_length (by rw [List.length_take]; omega)]
  rw [List.drop_of_length_le (by rw [List.length_take]; omega)]
  rfl

set_option maxRecDepth 100000 in
set_option maxHeartbeats 3200000 in
theorem rsplit_any (s : ByteArray) (hs : s.size ≤ 100000) (w : World) :
    Calls Tryd.prog 63 #[.string s] w fun e w' => ∃ v, e = .returned (.tuple #[v, .bool (namesS s).isSome]) ∧ RSplit w w' s v := by
  have hAt := bat_at s
  have HAT := Lib.hid hAt
  clear hAt
  rcases str_cases s with rfl | h | ⟨r, h, hr⟩
  · have hn : ∀ W, RSplit W W ⟨#[47]⟩ (.slice none 0 0) := fun W => ⟨⟨[], Or.inl ⟨rfl, rfl⟩, by simp, fun l hl => by rw [namesS_root] at hl; injection hl⟩, Kept.refl _ _, fun k hk => by cases hk⟩
    have HN := Lib.hid hn
    rw [show (namesS ⟨#[47]⟩).isSome = true by rw [namesS_root]; rfl]
    clear hn hs
    go_enter Tryd.func63, Tryd.ntmps63
    go_wp2_with fail
    go_ret2
    exact ⟨_, rfl, HN.out _⟩
  · have hnn := namesS_no h
    have hn : ∀ W, RSplit W W s (.slice none 0 0) := fun W => ⟨⟨[], Or.inl ⟨rfl, rfl⟩, by simp, fun l hl => by rw [hnn] at hl; cases hl⟩, Kept.refl _ _, fun k hk => by cases hk⟩
    have HN := Lib.hid hn
    have e1 : ¬ s.toList = [47] := fun e => h [] (by rw [← ByteArray.toList_eq]; exact e)
    have e1b : (s.toList == [47]) = false := by simp [e1]
    rw [hnn]
    by_cases h0 : s.size = 0
    · have h0i : (s.size : Int) = 0 := by omega
      have h0b : ((s.size : Int) == 0) = true := by simp [h0]
      clear hn hnn hs h h0
      go_enter Tryd.func63, Tryd.ntmps63
      go_wp2_with fail
      go_ret2
      exact ⟨_, rfl, HN.out _⟩
    · have h0b : ((s.size : Int) == 0) = false := by simp [h0]
      have p0 : 0 < s.size := by omega
      have p0i : (0 : Int) < (s.size : Int) := by omega
      have h47 : bat s 0 ≠ 47 := by
        intro e
        cases hl : s.data.toList with
        | nil => have : s.size = s.data.toList.length := rfl; rw [hl, List.length_nil] at this; omega
        | cons b t =>
          rw [bat_list s 0 p0, hl] at e
          have : b = 47 := UInt8.toNat_inj.1 (by simpa [List.getD] using e)
          exact h t (by rw [hl, this])
      have e0 := HAT.out 0
      obtain ⟨b0, hb0⟩ : ∃ b, b = bat s 0 := ⟨_, rfl⟩
      rw [← hb0] at e0 h47
      have q1 : ((b0 : Int) == 47) = false := by simp; omega
      have q2 : ((b0 : Int) != 47) = true := by simp; omega
      clear hn hnn hs h hb0 h47 h0
      go_enter Tryd.func63, Tryd.ntmps63
      go_wp2_with fail
      go_ret2
      exact ⟨_, rfl, HN.out _⟩
  · have hsz : s.size = r.length + 1 := by show s.data.toList.length = _; rw [h]; rfl
    have hrl : r.length ≤ 99999 := by omega
    have e1 : ¬ s.toList = [47] := fun e => hr (by rw [ByteArray.toList_eq, h] at e; exact (List.cons.inj e).2)
    have e1b : (s.toList == [47]) = false := by simp [e1]
    have h0b : ((s.size : Int) == 0) = false := beq_eq_false_iff_ne.2 (by omega)
    have h0c : ¬ (s.size : Int) = 0 := by omega
    have p0 : 0 < s.size := by omega
    have p0i : (0 : Int) < (s.size : Int) := by omega
    have e0 := HAT.out 0
    have hb0 : bat s 0 = 47 := by rw [bat_list s 0 p0, h]; rfl
    rw [hb0] at e0
    have HNA := Lib.hid (namesS_at h hr)
    obtain ⟨V, hV⟩ : ∃ V, V = (namesS s).isSome := ⟨_, rfl⟩
    rw [← hV]
    have HV := Lib.hid hV
    clear hV
    have HBY := Lib.hid (byte_at s r h)
    have HON := Lib.hid (one_data s r h)
    obtain ⟨n, hn⟩ : ∃ n, n = r.length := ⟨_, rfl⟩
    have HN := Lib.hid hn
    have HSZ := Lib.hid hsz
    have hszi : (s.size : Int) = (n : Int) + 1 := by omega
    have HSI := Lib.hid hszi
    have HRL := Lib.hid hrl
    clear h hr hs hb0 hsz hn hrl hszi
    go_enter Tryd.func63, Tryd.ntmps63
    go_wp2_with fail
    clear e0 e1 e1b h0b h0c p0 p0i
    go_loopw [4, 5, 6] (fun ov nv iv wr => ∃ (k : Nat) (a : Option Addr) (c : Nat) (o : List ByteArray) (nm : ByteArray), k ≤ n ∧ iv = .int .i64 (k + 1 : Nat) ∧ nv = .string nm ∧ ov = .slice a o.length c ∧ Hid (SpInv wr w.heap.size (.slice a o.length c) o nm r k) ∧ Hid (Kept (fun _ => False) w wr)) (fun _ _ iv _ => n + 1 - (intOf iv).toNat)
    case atStart => exact ⟨0, none, 0, [], ⟨#[]⟩, by omega, rfl, rfl, rfl, ⟨OwnS.nil _ _, by simp [cutL]⟩, Kept.refl _ _⟩
    case round =>
      obtain ⟨k, a, c, o, nm, hk, rfl, rfl, rfl, ho, hkw⟩ := hrel
      by_cases hlt : k < n
      · have l1 : ((k + 1 : Nat) : Int) < (s.size : Int) := by have := HSZ.out; have := HN.out; omega
        have l1n : k + 1 < s.size := by have := HSZ.out; have := HN.out; omega
        have l0 : (0 : Int) ≤ ((k + 1 : Nat) : Int) := by omega
        have hkr : k < r.length := by have := HN.out; omega
        have ek := HAT.out (k + 1) l1n
        obtain ⟨hb1, hb2⟩ := HBY.out k hkr
        have hon := HON.out k hkr
        have hol : o.length ≤ 99999 := by have := ho.out.len; have := HRL.out; omega
        have hcut := ho.out.cut
        have hlen := ho.out.len
        have hnm := ho.out.nm
        have hs1 : ¬ 9223372036854775807 < nm.size + (min (k + 1 + 1) s.size - (k + 1)) := by have := HSZ.out; have := HRL.out; omega
        obtain ⟨cb, hcb⟩ : ∃ cb, cb = r.getD k 0 := ⟨_, rfl⟩
        rw [← hcb] at hb1 hb2 hon
        have htk : r.take (k + 1) = r.take k ++ [cb] := by rw [hcb]; exact take_next r k hkr
        have hnext := cutL_at (c := cb) hcut
        rw [← htk] at hnext
        obtain ⟨b, hb⟩ : ∃ b, b = bat s (k + 1) := ⟨_, rfl⟩
        rw [← hb] at ek hb1 hb2
        have hszk := HSI.out
        have hrl9 := HRL.out
        by_cases h47 : b = 47
        · have q1 : ((b : Int) == 47) = true := by simp; omega
          have q1b : (b : Int) = 47 := by omega
          rw [if_pos (hb2.2 h47)] at hnext
          have HNX := Lib.hid hnext; have HO := Lib.hid ho.out.row; have HKW := Lib.hid hkw.out; have HOL := Lib.hid hol
          have hsz2 := hkw.out.size
          have hwr : IntKind.i64.wrap ((k : Int) + 1 + 1) = (k : Int) + 1 + 1 := IntWalk.i64_in _ (by omega)
          clear hs1 hnm hb1 hb2 hon hnext ho hkw hcut hlen hcb htk hb h47 hol hszk hkr hrl9
          go_wp2_with (at_builtin; refine wpList_pushS (by rfl) _ _ rfl rfl w.heap.size _ o wr.heap.size nm rfl rfl (HO.out.alloc _) (by go_simp) (by have := HOL.out; omega) (by simp; omega) ?_)
          intro a' c' w3 hown hk3
          have HO3 : Hid (SpInv w3 w.heap.size (.slice a' (o ++ [nm]).length c') (o ++ [nm]) ⟨#[]⟩ r (k + 1)) := ⟨by rw [List.length_append]; exact hown, by rw [HNX.out]; simp⟩
          have HK3 : Hid (Kept (fun _ => False) w w3) := (HKW.out.then (Kept.alloc _ _ _)).trans hk3 (fun _ _ h => h) (fun i hi e => by have := HO.out.lt i e; omega)
          clear hown hk3
          go_wp2_with fail
          go_roundw
          case rel => exact ⟨k + 1, a', c', o ++ [nm], ⟨#[]⟩, by omega, by go_num, rfl, by rw [List.length_append]; rfl, HO3, HK3⟩
          case measure => simp [intOf]; omega
        · have q1 : ((b : Int) == 47) = false := by simp; omega
          have q1b : ¬ (b : Int) = 47 := by omega
          rw [if_neg (fun e => h47 (hb2.1 e))] at hnext
          have HS3 : Hid (SpInv wr w.heap.size (.slice a o.length c) o (nm ++ s.extract (k + 1) (k + 1 + 1)) r (k + 1)) := ⟨ho.out.row, by rw [hnext, cat_data, hon]⟩
          obtain ⟨hwr, hnt, l2, l3, l4⟩ : IntKind.i64.wrap ((k : Int) + 1 + 1) = (k : Int) + 1 + 1 ∧ ((k : Int) + 1 + 1).toNat = k + 1 + 1 ∧ (k : Int) + 1 + 1 ≤ (s.size : Int) ∧ (0 : Int) ≤ (k : Int) + 1 + 1 ∧ (k : Int) + 1 ≤ (k : Int) + 1 + 1 := ⟨IntWalk.i64_in _ (by omega), by omega, by omega, by omega, by omega⟩
          clear hnm hb1 hb2 hon hnext ho hcut hlen hcb htk hb h47 hol hszk hkr hrl9
          go_wp2_with fail
          go_roundw
          case rel => exact ⟨k + 1, a, c, o, _, by omega, by first | rfl | go_num, rfl, rfl, HS3, hkw⟩
          case measure => simp [intOf]; omega
      · obtain rfl : n = k := by omega
        have l1 : ¬ ((n + 1 : Nat) : Int) < (s.size : Int) := by have := HSZ.out; have := HN.out; omega
        have hcut := ho.out.cut
        rw [HN.out, List.take_length] at hcut
        have hol : o.length ≤ 99999 := by have := ho.out.len; have := HRL.out; omega
        have hsm : ∀ x ∈ o ++ [nm], x.size ≤ 1000000 := by
          intro x hx
          have h1 : x.data.toList ∈ cutL r := by
            rw [hcut]
            rcases List.mem_append.1 hx with hx | hx
            · exact List.mem_append_left _ (List.mem_map.2 ⟨x, hx, rfl⟩)
            · simp at hx; subst hx; simp
          have h2 := cutL_small r _ h1
          have h3 : x.size = x.data.toList.length := rfl
          have := HRL.out
          omega
        have hxs : (cutL r).map mkS = o ++ [nm] := by
          have := congrArg (List.map mkS) hcut
          rw [this]
          have e : o.map (·.data.toList) ++ [nm.data.toList] = (o ++ [nm]).map (·.data.toList) := by simp
          rw [e, map_data]
        have hna := HNA.out
        rw [hxs] at hna
        have hcl : (cutL r).length = o.length + 1 := by rw [hcut]; simp
        rw [hcl] at hna
        have HNA2 := Lib.hid hna; have HSM := Lib.hid hsm
        have HO := Lib.hid ho.out.row; have HKW := Lib.hid hkw.out; have HOL := Lib.hid hol
        have hsz2 := hkw.out.size
        clear ho hkw hcut hol hsm hxs hna hcl
        go_wp2_with (at_builtin; refine wpList_pushS (by rfl) _ _ rfl rfl w.heap.size _ o wr.heap.size nm rfl rfl (HO.out.alloc _) (by go_simp) (by have := HOL.out; omega) (by simp; omega) ?_)
        intro a' c' w3 hown hk3
        have hstr : Strs w3 (.slice a' (o.length + 1) c') (o ++ [nm]) := Strs.ofOwn (B := w.heap.size) ⟨hown.own⟩
        have hk33 : Kept (fun _ => False) w w3 := (HKW.out.then (Kept.alloc _ _ _)).trans hk3 (fun _ _ h => h) (fun i hi e => by have := HO.out.lt i e; omega)
        have hlt := hown.lt
        obtain ⟨N, hN⟩ : ∃ N, N = o.length + 1 := ⟨_, rfl⟩
        obtain ⟨xs, hxs⟩ : ∃ xs, xs = o ++ [nm] := ⟨_, rfl⟩
        have hxl : xs.length = N := by rw [hxs, hN]; simp
        rw [← hN] at hstr hlt HNA2 ⊢
        rw [← hxs] at hstr HNA2 HSM
        have hNb : N ≤ 100000 := by have := HOL.out; omega
        have HS3 := Lib.hid hstr; have HK3 := Lib.hid hk33; have HLT := Lib.hid hlt; have HXL := Lib.hid hxl
        clear hstr hk33 hlt hown hk3 hxs hN hxl HO HKW HOL hsz2 l1
        go_wp2_with fail
        go_loop [46] (fun iv => ∃ j : Nat, j ≤ N ∧ iv = .int .i64 j ∧ Hid (∀ i, i < j → nameS (xs.getD i ⟨#[]⟩) = true)) (fun iv => N - (intOf iv).toNat)
        case atStart => exact ⟨0, by omega, rfl, fun j hj => by omega⟩
        case round =>
          obtain ⟨j, hj, rfl, hgo⟩ := hrel
          by_cases hlt : j < N
          · have l1 : (j : Int) < (N : Int) := by omega
            have l0 : (0 : Int) ≤ (j : Int) := by omega
            obtain ⟨g, off, rfl, _, hcell⟩ := HS3.out.at (k := j) (by have := HXL.out; omega)
            obtain ⟨x, hx⟩ : ∃ x, x = xs.getD j ⟨#[]⟩ := ⟨_, rfl⟩
            have hjl : j < xs.length := by have := HXL.out; omega
            have hxm : x ∈ xs := by rw [hx]; simp [List.getD, hjl]
            rw [← hx] at hcell
            have hin := risName_any x (HSM.out x hxm)
            obtain ⟨b, hb⟩ : ∃ b, b = nameS x := ⟨_, rfl⟩
            rw [← hb] at hin
            have HIN := Lib.hid hin
            cases b with
            | true =>
              have hn : Hid (∀ i, i < j + 1 → nameS (xs.getD i ⟨#[]⟩) = true) := fun i hi => by
                by_cases e : i < j
                · exact hgo.out i e
                · obtain rfl : i = j := by omega
                  rw [← hx]; exact hb.symm
              clear hb hgo hin hx hxm hjl
              go_wp2_with fail
              refine (HIN.out _).mono ?_
              rintro e w' ⟨rfl, rfl⟩
              go_wp2_with fail
              go_round
              case rel => exact ⟨j + 1, by omega, by go_num, hn⟩
              case measure => simp [intOf]; omega
            | false =>
              have hall : xs.all nameS = false := by
                rw [List.all_eq_false]
                exact ⟨x, hxm, by rw [← hb]; simp⟩
              have hna : namesS s = none := by rw [HNA2.out, if_neg (fun e => by rw [hall] at e; cases e.2)]
              have hn : RSplit w w3 s (.slice none 0 0) := ⟨⟨[], Or.inl ⟨rfl, rfl⟩, by simp, fun l hl => by rw [hna] at hl; cases hl⟩, HK3.out, fun k hk => by cases hk⟩
              have HNN := Lib.hid hn
              have hv : V = false := by rw [HV.out, hna]; rfl
              subst hv
              clear hb hgo hin hx hxm hjl hall hna hn
              go_wp2_with fail
              refine (HIN.out _).mono ?_
              rintro e w' ⟨rfl, rfl⟩
              go_wp2_with fail
              go_ret2
              exact ⟨_, rfl, HNN.out⟩
          · obtain rfl : j = N := by omega
            have hall : xs.all nameS = true := by
              rw [List.all_eq_true]
              intro x hx
              obtain ⟨i, hi, e⟩ := List.getElem_of_mem hx
              have := hgo.out i (by have := HXL.out; omega)
              simpa [List.getD, hi, e] using this
            by_cases h8 : j ≤ 8
            · have h8i : (j : Int) ≤ 8 := by omega
              have hna : namesS s = some xs := by rw [HNA2.out, if_pos ⟨h8, hall⟩]
              have hn : RSplit w w3 s (.slice a' j c') := ⟨⟨xs, HS3.out, by have := HXL.out; omega, fun l hl => by rw [hna] at hl; injection hl⟩, HK3.out, HLT.out⟩
              have HNN := Lib.hid hn
              have hv : V = true := by rw [HV.out, hna]; rfl
              subst hv
              clear hgo hall hna hn
              go_wp2_with fail
              go_ret2
              exact ⟨_, rfl, HNN.out⟩
            · have h8i : ¬ (j : Int) ≤ 8 := by omega
              have hna : namesS s = none := by rw [HNA2.out, if_neg (fun e => h8 e.1)]
              have hn : RSplit w w3 s (.slice a' j c') := ⟨⟨xs, HS3.out, by have := HXL.out; omega, fun l hl => by rw [hna] at hl; cases hl⟩, HK3.out, HLT.out⟩
              have HNN := Lib.hid hn
              have hv : V = false := by rw [HV.out, hna]; rfl
              subst hv
              clear hgo hall hna hn
              go_wp2_with fail
              go_ret2
              exact ⟨_, rfl, HNN.out⟩
end Go.Proofs.YtndedphkgkmckaaDoor
