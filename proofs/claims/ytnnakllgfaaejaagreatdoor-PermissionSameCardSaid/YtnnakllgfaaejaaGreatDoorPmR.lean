/-
  The reference of permissions: part, Split.
-/
import Derived.Test.YtnnakllgfaaejaaGreatDoorPmM
import Derived.Test.YtnnakllgfaaejaaGreatDoorPaR
namespace Go.Proofs.YtnnakllgfaaejaaGreatDoor
open Go.RowKit
set_option linter.unusedSimpArgs false
set_option linter.unusedVariables false

set_option maxRecDepth 100000 in
set_option maxHeartbeats 3200000 in
theorem rpart_any (s : ByteArray) (hs : s.size ≤ 1000000) (w : World) : Calls Tryz.prog 69 #[.string s] w fun e w' => e = .returned (.bool (nameS s)) ∧ w = w' := by
  obtain ⟨V, hV⟩ : ∃ V, V = nameS s := ⟨_, rfl⟩
  rw [← hV]
  have HV := Lib.hid hV
  clear hV
  have HAT := Lib.hid (bat_at s)
  have es := str_eq s ⟨#[]⟩
  by_cases h0 : s.size = 0
  · have hv : V = false := by rw [HV.out]; exact nameS_bad (Or.inl h0)
    subst hv
    have hse : s = ⟨#[]⟩ := str_ext (List.eq_nil_of_length_eq_zero h0)
    subst hse
    clear es
    go_enter Tryz.func69, Tryz.ntmps69
    go_wp2_with fail
    go_ret
    exact ⟨rfl, rfl⟩
  have e0 : ¬ s.toList = [] := toList_ne (l := []) (fun e => h0 (by rw [e]; rfl))
  have e0b : (s.toList == []) = false := by simp [e0]
  clear es
  by_cases h12 : 12 < s.size
  · have hv : V = false := by rw [HV.out]; exact nameS_bad (Or.inr (Or.inl h12))
    subst hv
    have h12i : (12 : Int) < (s.size : Int) := by omega
    go_enter Tryz.func69, Tryz.ntmps69
    go_wp2_with fail
    go_ret
    exact ⟨rfl, rfl⟩
  have h12i : ¬ (12 : Int) < (s.size : Int) := by omega
  by_cases hd1 : s = ⟨#[46]⟩
  · have hv : V = false := by rw [HV.out]; exact nameS_bad (Or.inr (Or.inr (Or.inl hd1)))
    subst hv
    subst hd1
    go_enter Tryz.func69, Tryz.ntmps69
    go_wp2_with fail
    go_ret
    exact ⟨rfl, rfl⟩
  have e1 : ¬ s.toList = [46] := toList_ne hd1
  have e1b : (s.toList == [46]) = false := by simp [e1]
  by_cases hd2 : s = ⟨#[46, 46]⟩
  · have hv : V = false := by rw [HV.out]; exact nameS_bad (Or.inr (Or.inr (Or.inr (Or.inl hd2))))
    subst hv
    subst hd2
    go_enter Tryz.func69, Tryz.ntmps69
    go_wp2_with fail
    go_ret
    exact ⟨rfl, rfl⟩
  have e2 : ¬ s.toList = [46, 46] := toList_ne hd2
  have e2b : (s.toList == [46, 46]) = false := by simp [e2]
  have HGOOD := Lib.hid (fun h => nameS_good h0 h12 hd1 hd2 h)
  clear h0 h12 hd1 hd2
  go_enter Tryz.func69, Tryz.ntmps69
  go_wp2_with fail
  clear e0 e0b h12i e1 e1b e2 e2b
  go_loop [3, 4] (fun iv _ => ∃ k : Nat, k ≤ s.size ∧ iv = .int .i64 k ∧ Hid (∀ j, j < k → okB (bat s j) = true)) (fun iv _ => s.size - (intOf iv).toNat)
  case atStart => exact ⟨0, by omega, rfl, fun j hj => by omega⟩
  case round =>
    obtain ⟨k, hk, rfl, hgo⟩ := hrel
    by_cases hlt : k < s.size
    · have l1 : (k : Int) < (s.size : Int) := by omega
      have l0 : (0 : Int) ≤ (k : Int) := by omega
      have ek := HAT.out k
      obtain ⟨c, hc⟩ : ∃ c, c = bat s k := ⟨_, rfl⟩
      rw [← hc] at ek
      have HC := Lib.hid hc
      clear hc
      rcases okB_cases c with ⟨hr, h⟩ | ⟨hr, h⟩
      · have hn : Hid (∀ j, j < k + 1 → okB (bat s j) = true) := fun j hj => by
          by_cases e : j < k
          · exact hgo.out j e
          · obtain rfl : j = k := by omega
            rw [← HC.out]; exact hr
        clear hr hgo HC
        rcases h with ⟨h1, h2⟩ | ⟨h1, h2, h3⟩ | rfl | rfl | rfl
        all_goals
          go_wp2_with fail
          go_round
          case rel => exact ⟨k + 1, by omega, by go_num, hn⟩
          case measure => simp [intOf]; omega
      · have hv : V = false := by rw [HV.out]; exact nameS_bad (Or.inr (Or.inr (Or.inr (Or.inr ⟨k, hlt, by rw [← HC.out]; exact hr⟩))))
        subst hv
        clear hr hgo HC
        rcases h with ⟨h1, h2, h3, h4, h5, h6, h7, h8, h9, h10⟩ | ⟨h1, h3, h4, h5, h6, h7, h8, h9, h10⟩ | ⟨h1, h3, h5, h6, h7, h8, h9, h10⟩
        all_goals
          go_wp2_with fail
          go_ret
          exact ⟨rfl, rfl⟩
    · obtain rfl : k = s.size := by omega
      have hv : V = true := by rw [HV.out]; exact HGOOD.out hgo.out
      subst hv
      go_wp2_with fail
      go_ret
      exact ⟨rfl, rfl⟩

theorem cutL_app : ∀ (a r : List UInt8), cutL (a ++ 47 :: r) = cutL a ++ cutL r
  | [], r => by rw [List.nil_append, cutL_stroke]; rfl
  | c :: a, r => by
    have ih := cutL_app a r
    by_cases hc : c = 47
    · subst hc
      rw [List.cons_append, cutL_stroke, cutL_stroke, ih]; rfl
    · obtain ⟨h, t, e⟩ := cutL_cons a
      rw [e] at ih
      rw [List.cons_append, cutL_char hc a h t e, cutL_char hc (a ++ 47 :: r) h (t ++ cutL r) ih]; rfl
/-- The names before a place, and the one that is under way. -/
structure Sp2 (W : World) (B : Nat) (ov : Value) (o : List ByteArray) (nm : ByteArray) (r : List UInt8) (k : Nat) : Prop where
  row : OwnS W B ov o
  cut : k ≤ r.length → cutL (r.take k) = o.map (·.data.toList) ++ [nm.data.toList]
  all : r.length < k → cutL r = o.map (·.data.toList)
  names : ∀ x ∈ o, nameS x = true
theorem Sp2.len {W : World} {B : Nat} {ov : Value} {o : List ByteArray} {nm : ByteArray} {r : List UInt8} {k : Nat} (h : Sp2 W B ov o nm r k) : o.length ≤ r.length + 1 := by
  by_cases hk : k ≤ r.length
  · have h1 := congrArg List.length (h.cut hk)
    have h2 := cutL_len (r.take k)
    simp only [List.length_append, List.length_map, List.length_cons, List.length_nil] at h1
    rw [List.length_take] at h2
    omega
  · have h1 := congrArg List.length (h.all (by omega))
    have h2 := cutL_len r
    rw [List.length_map] at h1
    omega
theorem Sp2.nm {W : World} {B : Nat} {ov : Value} {o : List ByteArray} {nm : ByteArray} {r : List UInt8} {k : Nat} (h : Sp2 W B ov o nm r k) (hk : k ≤ r.length) : nm.size ≤ r.length := by
  have h1 := cutL_small (r.take k) nm.data.toList (by rw [h.cut hk]; simp)
  rw [List.length_take] at h1
  have h2 : nm.size = nm.data.toList.length := rfl
  omega

set_option maxRecDepth 100000 in
set_option maxHeartbeats 3200000 in
theorem psplit_any (s : ByteArray) (hs : s.size ≤ 100000) (w : World) :
    Calls Tryz.prog 46 #[.string s] w fun e w' => ∃ v, e = .returned (.tuple #[v, .bool (namesS s).isSome]) ∧ RSplit w w' s v := by
  have HAT := Lib.hid (bat_at s)
  rcases str_cases s with rfl | h | ⟨r, h, hr⟩
  · have hn : ∀ W, RSplit W W ⟨#[47]⟩ (.slice none 0 0) := fun W => ⟨⟨[], Or.inl ⟨rfl, rfl⟩, by simp, fun l hl => by rw [namesS_root] at hl; injection hl⟩, Kept.refl _ _, fun k hk => by cases hk⟩
    have HN := Lib.hid hn
    rw [show (namesS ⟨#[47]⟩).isSome = true by rw [namesS_root]; rfl]
    clear hn hs
    go_enter Tryz.func46, Tryz.ntmps46
    go_wp2_with fail
    go_ret2
    exact ⟨_, rfl, HN.out _⟩
  · have hnn := namesS_no h
    have hn : ∀ W, RSplit W W s (.slice none 0 0) := fun W => ⟨⟨[], Or.inl ⟨rfl, rfl⟩, by simp, fun l hl => by rw [hnn] at hl; cases hl⟩, Kept.refl _ _, fun k hk => by cases hk⟩
    have HN := Lib.hid hn
    have e1 : ¬ s.toList = [47] := fun e => h [] (by rw [← ByteArray.toList_eq]; exact e)
    have e1b : (s.toList == [47]) = false := by simp [e1]
    rw [hnn]
    by_cases h0 : s.size = 0
    · have hse : s = ⟨#[]⟩ := str_ext (List.eq_nil_of_length_eq_zero h0)
      subst hse
      clear hn hnn hs h h0
      go_enter Tryz.func46, Tryz.ntmps46
      go_wp2_with fail
      go_ret2
      exact ⟨_, rfl, HN.out _⟩
    · have e0 : ¬ s.toList = [] := toList_ne (l := []) (fun e => h0 (by rw [e]; rfl))
      have e0b : (s.toList == []) = false := by simp [e0]
      have p0 : 0 < s.size := by omega
      have p0i : (0 : Int) < (s.size : Int) := by omega
      have h47 : bat s 0 ≠ 47 := by
        intro e
        cases hl : s.data.toList with
        | nil => have : s.size = s.data.toList.length := rfl; rw [hl, List.length_nil] at this; omega
        | cons b t =>
          rw [bat_list s 0 p0, hl] at e
          have : b = 47 := UInt8.toNat_inj.1 (by simpa [List.getD] using e)
          exact h t (by rw [hl, this])
      have ek := HAT.out 0
      obtain ⟨b0, hb0⟩ : ∃ b, b = bat s 0 := ⟨_, rfl⟩
      rw [← hb0] at ek h47
      have q1 : ((b0 : Int) == 47) = false := by simp; omega
      have q2 : ((b0 : Int) != 47) = true := by simp; omega
      clear hn hnn hs h hb0 h47 h0
      go_enter Tryz.func46, Tryz.ntmps46
      go_wp2_with fail
      go_ret2
      exact ⟨_, rfl, HN.out _⟩
  · have hsz : s.size = r.length + 1 := by show s.data.toList.length = _; rw [h]; rfl
    have hrl : r.length ≤ 99999 := by omega
    have e1 : ¬ s.toList = [47] := fun e => hr (by rw [ByteArray.toList_eq, h] at e; exact (List.cons.inj e).2)
    have e1b : (s.toList == [47]) = false := by simp [e1]
    have e0 : ¬ s.toList = [] := fun e => by rw [ByteArray.toList_eq, h] at e; cases e
    have e0b : (s.toList == []) = false := by simp [e0]
    have p0 : 0 < s.size := by omega
    have p0i : (0 : Int) < (s.size : Int) := by omega
    have ek0 := HAT.out 0
    have hb0 : bat s 0 = 47 := by rw [bat_list s 0 p0, h]; rfl
    rw [hb0] at ek0
    have HNA := Lib.hid (namesS_at h hr)
    obtain ⟨V, hV⟩ : ∃ V, V = (namesS s).isSome := ⟨_, rfl⟩
    rw [← hV]
    have HV := Lib.hid hV
    clear hV
    have HBY := Lib.hid (byte_at s r h)
    have HON := Lib.hid (one_data s r h)
    obtain ⟨n, hn⟩ : ∃ n, n = r.length := ⟨_, rfl⟩
    have HN := Lib.hid hn
    have HSZ := Lib.hid hsz
    have hszi : (s.size : Int) = (n : Int) + 1 := by omega
    have HSI := Lib.hid hszi
    have HRL := Lib.hid hrl
    have HBAD : Hid (∀ nm : ByteArray, nm.data.toList ∈ cutL r → nameS nm = false → V = false ∧ namesS s = none) := Lib.hid fun nm h1 h2 => by
      have h3 : ¬ ((cutL r).map mkS).all nameS = true := fun h4 => by
        have := List.all_eq_true.1 h4 (mkS nm.data.toList) (List.mem_map.2 ⟨_, h1, rfl⟩)
        rw [mkS_data, h2] at this; cases this
      have h4 : namesS s = none := by rw [HNA.out, if_neg (fun h => h3 h.2)]
      exact ⟨by rw [HV.out, h4]; rfl, h4⟩
    clear h hr hs hb0 hsz hn hrl hszi
    go_enter Tryz.func46, Tryz.ntmps46
    go_wp2_with fail
    clear ek0 e1 e1b e0 e0b p0 p0i
    go_loopw [4, 5, 6] (fun ov nv iv wr => ∃ (k : Nat) (a : Option Addr) (c : Nat) (o : List ByteArray) (nm : ByteArray), k ≤ n + 1 ∧ iv = .int .i64 (k + 1 : Nat) ∧ nv = .string nm ∧ ov = .slice a o.length c ∧ Hid (Sp2 wr w.heap.size (.slice a o.length c) o nm r k) ∧ Hid (Kept (fun _ => False) w wr)) (fun _ _ iv _ => n + 2 - (intOf iv).toNat)
    case atStart => exact ⟨0, none, 0, [], ⟨#[]⟩, by omega, rfl, rfl, rfl, ⟨OwnS.nil _ _, fun _ => by simp [cutL], fun h => absurd h (by omega), fun x hx => by simp at hx⟩, Kept.refl _ _⟩
    case round =>
      obtain ⟨k, a, c, o, nm, hk, rfl, rfl, rfl, ho, hkw⟩ := hrel
      have hol : o.length ≤ 100000 := by have := ho.out.len; have := HRL.out; omega
      by_cases hkn : k ≤ n
      · have l1 : ((k + 1 : Nat) : Int) ≤ (s.size : Int) := by have := HSZ.out; have := HN.out; omega
        have l1n : k + 1 ≤ s.size := by have := HSZ.out; have := HN.out; omega
        have l0 : (0 : Int) ≤ ((k + 1 : Nat) : Int) := by omega
        have hcut := ho.out.cut (by have := HN.out; omega)
        have hnm := ho.out.nm (by have := HN.out; omega)
        have hnm6 : nm.size ≤ 1000000 := by have := HRL.out; omega
        have hszk := HSI.out
        have hrl9 := HRL.out
        by_cases hlt : k < n
        · have l2 : ((k + 1 : Nat) : Int) < (s.size : Int) := by have := HSZ.out; have := HN.out; omega
          have l2n : k + 1 < s.size := by have := HSZ.out; have := HN.out; omega
          have hkr : k < r.length := by have := HN.out; omega
          have ek := HAT.out (k + 1) l2n
          obtain ⟨hb1, hb2⟩ := HBY.out k hkr
          have hon := HON.out k hkr
          have hs1 : ¬ 9223372036854775807 < nm.size + (min (k + 1 + 1) s.size - (k + 1)) := by have := HSZ.out; have := HRL.out; omega
          obtain ⟨cb, hcb⟩ : ∃ cb, cb = r.getD k 0 := ⟨_, rfl⟩
          rw [← hcb] at hb1 hb2 hon
          have htk : r.take (k + 1) = r.take k ++ [cb] := by rw [hcb]; exact take_next r k hkr
          have hnext := cutL_at (c := cb) hcut
          rw [← htk] at hnext
          have hdr : r = r.take k ++ cb :: r.drop (k + 1) := by
            have h1 := (List.take_append_drop (k + 1) r).symm
            rw [htk, List.append_assoc] at h1
            exact h1
          obtain ⟨b, hb⟩ : ∃ b, b = bat s (k + 1) := ⟨_, rfl⟩
          rw [← hb] at ek hb1 hb2
          by_cases h47 : b = 47
          · have q1 : ((b : Int) != 47) = false := by simp; omega
            have q1b : (b : Int) = 47 := by omega
            have hc47 := hb2.2 h47
            rw [if_pos hc47] at hnext
            have hmem : nm.data.toList ∈ cutL r := by
              rw [hdr, hc47, cutL_app, hcut]; simp
            have hwr : IntKind.i64.wrap ((k : Int) + 1 + 1) = (k : Int) + 1 + 1 := IntWalk.i64_in _ (by omega)
            have HPA := Lib.hid (fun W => rpart_any nm hnm6 W)
            obtain ⟨pb, hpb⟩ : ∃ pb, pb = nameS nm := ⟨_, rfl⟩
            rw [← hpb] at HPA
            have HPB := Lib.hid hpb; have HMEM := Lib.hid hmem; have HNX := Lib.hid hnext; have HO := Lib.hid ho.out.row; have HNM := Lib.hid ho.out.names; have HKW := Lib.hid hkw.out; have HOL := Lib.hid hol
            have hsz2 := hkw.out.size
            clear hs1 hnm hnm6 hb1 hb2 hon hnext ho hkw hcut hcb htk hb h47 hol hszk hkr hrl9 hdr hc47 hmem hpb
            cases pb with
            | false =>
              obtain ⟨hv, hnn⟩ := HBAD.out nm HMEM.out HPB.out.symm
              have HR : Hid (RSplit w wr s (.slice none 0 0)) := ⟨⟨[], Or.inl ⟨rfl, rfl⟩, by simp, fun l hl => by rw [hnn] at hl; cases hl⟩, HKW.out, fun k hk => by cases hk⟩
              subst hv
              clear hnn
              go_wp2_with fail
              refine (HPA.out _).mono ?_
              rintro e w2 ⟨rfl, rfl⟩
              go_wp2_with fail
              go_ret2
              exact ⟨_, rfl, HR.out⟩
            | true =>
              go_wp2_with (first
                | (go_at_call 69; refine (HPA.out _).mono ?_; rintro e w2 ⟨rfl, rfl⟩)
                | (at_builtin; refine wpList_pushS (by rfl) _ _ rfl rfl w.heap.size _ o wr.heap.size nm rfl rfl (HO.out.alloc _) (by go_simp) (by have := HOL.out; omega) (by simp; omega) ?_; intro a' c' w3 hown hk3; have HOWN := Lib.hid hown; have HKK := Lib.hid hk3; clear hown hk3))
              have HO3 : Hid (Sp2 w3 w.heap.size (.slice a' (o ++ [nm]).length c') (o ++ [nm]) ⟨#[]⟩ r (k + 1)) := ⟨by rw [List.length_append]; exact HOWN.out, fun _ => by rw [HNX.out]; simp, fun h => absurd h (by have := HN.out; omega), fun x hx => by
                rcases List.mem_append.1 hx with hx | hx
                · exact HNM.out x hx
                · simp at hx; rw [hx]; exact HPB.out.symm⟩
              have HK3 : Hid (Kept (fun _ => False) w w3) := (HKW.out.then (Kept.alloc _ _ _)).trans HKK.out (fun _ _ h => h) (fun i hi e => by have := HO.out.lt i e; omega)
              go_roundw
              case rel => exact ⟨k + 1, a', c', o ++ [nm], ⟨#[]⟩, by omega, by go_num, rfl, by rw [List.length_append]; rfl, HO3, HK3⟩
              case measure => simp [intOf]; omega
          · have q1 : ((b : Int) != 47) = true := by simp; omega
            have q1b : ¬ (b : Int) = 47 := by omega
            rw [if_neg (fun e => h47 (hb2.1 e))] at hnext
            have HS3 : Hid (Sp2 wr w.heap.size (.slice a o.length c) o (nm ++ s.extract (k + 1) (k + 1 + 1)) r (k + 1)) := ⟨ho.out.row, fun _ => by rw [hnext, cat_data, hon], fun h => absurd h (by have := HN.out; omega), ho.out.names⟩
            obtain ⟨hwr, hnt, l3, l4, l5⟩ : IntKind.i64.wrap ((k : Int) + 1 + 1) = (k : Int) + 1 + 1 ∧ ((k : Int) + 1 + 1).toNat = k + 1 + 1 ∧ (k : Int) + 1 + 1 ≤ (s.size : Int) ∧ (0 : Int) ≤ (k : Int) + 1 + 1 ∧ (k : Int) + 1 ≤ (k : Int) + 1 + 1 := ⟨IntWalk.i64_in _ (by omega), by omega, by omega, by omega, by omega⟩
            clear hnm hnm6 hb1 hb2 hon hnext ho hcut hcb htk hb h47 hol hszk hkr hrl9 hdr
            go_wp2_with fail
            go_roundw
            case rel => exact ⟨k + 1, a, c, o, _, by omega, by first | rfl | go_num, rfl, rfl, HS3, hkw⟩
            case measure => simp [intOf]; omega
        · obtain rfl : k = n := by omega
          have l2 : ¬ ((k + 1 : Nat) : Int) < (s.size : Int) := by have := HSZ.out; have := HN.out; omega
          have hcut2 := hcut
          rw [HN.out, List.take_length] at hcut2
          have hmem : nm.data.toList ∈ cutL r := by rw [hcut2]; simp
          have hwr : IntKind.i64.wrap ((k : Int) + 1 + 1) = (k : Int) + 1 + 1 := IntWalk.i64_in _ (by have := HN.out; omega)
          have HPA := Lib.hid (fun W => rpart_any nm hnm6 W)
          obtain ⟨pb, hpb⟩ : ∃ pb, pb = nameS nm := ⟨_, rfl⟩
          rw [← hpb] at HPA
          have HPB := Lib.hid hpb; have HMEM := Lib.hid hmem; have HNX := Lib.hid hcut2; have HO := Lib.hid ho.out.row; have HNM := Lib.hid ho.out.names; have HKW := Lib.hid hkw.out; have HOL := Lib.hid hol
          have hsz2 := hkw.out.size
          clear hnm hnm6 ho hkw hcut hcut2 hol hszk hrl9 hmem hpb
          cases pb with
          | false =>
            obtain ⟨hv, hnn⟩ := HBAD.out nm HMEM.out HPB.out.symm
            have HR : Hid (RSplit w wr s (.slice none 0 0)) := ⟨⟨[], Or.inl ⟨rfl, rfl⟩, by simp, fun l hl => by rw [hnn] at hl; cases hl⟩, HKW.out, fun k hk => by cases hk⟩
            subst hv
            clear hnn
            go_wp2_with fail
            refine (HPA.out _).mono ?_
            rintro e w2 ⟨rfl, rfl⟩
            go_wp2_with fail
            go_ret2
            exact ⟨_, rfl, HR.out⟩
          | true =>
            go_wp2_with (first
              | (go_at_call 69; refine (HPA.out _).mono ?_; rintro e w2 ⟨rfl, rfl⟩)
              | (at_builtin; refine wpList_pushS (by rfl) _ _ rfl rfl w.heap.size _ o wr.heap.size nm rfl rfl (HO.out.alloc _) (by go_simp) (by have := HOL.out; omega) (by simp; omega) ?_; intro a' c' w3 hown hk3; have HOWN := Lib.hid hown; have HKK := Lib.hid hk3; clear hown hk3))
            have HO3 : Hid (Sp2 w3 w.heap.size (.slice a' (o ++ [nm]).length c') (o ++ [nm]) ⟨#[]⟩ r (k + 1)) := ⟨by rw [List.length_append]; exact HOWN.out, fun h => absurd h (by have := HN.out; omega), fun _ => by rw [HNX.out]; simp, fun x hx => by
              rcases List.mem_append.1 hx with hx | hx
              · exact HNM.out x hx
              · simp at hx; rw [hx]; exact HPB.out.symm⟩
            have HK3 : Hid (Kept (fun _ => False) w w3) := (HKW.out.then (Kept.alloc _ _ _)).trans HKK.out (fun _ _ h => h) (fun i hi e => by have := HO.out.lt i e; omega)
            go_roundw
            case rel => exact ⟨k + 1, a', c', o ++ [nm], ⟨#[]⟩, by omega, by go_num, rfl, by rw [List.length_append]; rfl, HO3, HK3⟩
            case measure => simp [intOf]; omega
      · obtain rfl : k = n + 1 := by omega
        have l1 : ¬ ((n + 1 + 1 : Nat) : Int) ≤ (s.size : Int) := by have := HSZ.out; have := HN.out; omega
        have hall := ho.out.all (by have := HN.out; omega)
        have hxs : (cutL r).map mkS = o := by rw [hall]; exact map_data o
        have hna := HNA.out
        rw [hxs] at hna
        have hcl : (cutL r).length = o.length := by rw [hall]; simp
        have hal : o.all nameS = true := List.all_eq_true.2 ho.out.names
        rw [hcl] at hna
        have hstr := Strs.ofOwn (B := w.heap.size) ho.out.row
        by_cases h8 : o.length ≤ 8
        · have hns : namesS s = some o := by rw [hna, if_pos ⟨h8, hal⟩]
          have hv : V = true := by rw [HV.out, hns]; rfl
          have HR : Hid (RSplit w wr s (.slice a o.length c)) := ⟨⟨o, hstr, by omega, fun l hl => by rw [hns] at hl; injection hl⟩, hkw.out, ho.out.row.lt⟩
          have h8i : (o.length : Int) ≤ 8 := by omega
          subst hv
          clear hall hxs hna hcl hal hstr hns ho hkw h8
          go_wp2_with fail
          go_ret2
          exact ⟨_, rfl, HR.out⟩
        · have hns : namesS s = none := by rw [hna, if_neg (fun h => h8 h.1)]
          have hv : V = false := by rw [HV.out, hns]; rfl
          have HR : Hid (RSplit w wr s (.slice a o.length c)) := ⟨⟨o, hstr, by omega, fun l hl => by rw [hns] at hl; cases hl⟩, hkw.out, ho.out.row.lt⟩
          have h8i : ¬ (o.length : Int) ≤ 8 := by omega
          subst hv
          clear hall hxs hna hcl hal hstr hns ho hkw h8
          go_wp2_with fail
          go_ret2
          exact ⟨_, rfl, HR.out⟩
end Go.Proofs.YtnnakllgfaaejaaGreatDoor
