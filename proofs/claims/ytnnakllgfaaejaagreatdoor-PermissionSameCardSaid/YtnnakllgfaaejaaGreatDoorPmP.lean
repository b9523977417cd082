/-
  The reference of permissions: Join, Action, Path.
-/
import Derived.Test.YtnnakllgfaaejaaGreatDoorPmR
import Derived.Test.YtnnakllgfaaejaaGreatDoorPaLo
namespace Go.Proofs.YtnnakllgfaaejaaGreatDoor
open Go.RowKit
set_option linter.unusedSimpArgs false
set_option linter.unusedVariables false

set_option maxRecDepth 100000 in
set_option maxHeartbeats 1600000 in
theorem rjoin11_any (v : Value) (xs : List ByteArray) (w : World) (h : Strs w v xs) (hl : xs.length ≤ 100) (hx : ∀ x ∈ xs, x.size ≤ 1000) :
    Calls Tryz.prog 28 #[v] w fun e w' => e = .returned (.string (pathS xs)) ∧ w = w' := by
  obtain ⟨a, c, rfl, hnc, hcm⟩ := h.form
  by_cases h0 : xs = []
  · subst h0
    show Calls _ _ _ _ fun e w' => e = .returned (.string ⟨#[47]⟩) ∧ _
    clear h hl hx hnc hcm
    go_enter Tryz.func28, Tryz.ntmps28
    go_wp2_with fail
    go_ret
    exact ⟨rfl, rfl⟩
  · have HS := Lib.hid h
    obtain ⟨n, hn⟩ : ∃ n, n = xs.length := ⟨_, rfl⟩
    have hn0 : ¬ (n : Int) = 0 := by
      have : xs.length ≠ 0 := fun e => h0 (List.length_eq_zero_iff.1 e)
      omega
    have hn0b : ((n : Int) == 0) = false := beq_eq_false_iff_ne.2 hn0
    rw [← hn] at HS ⊢
    have HN := Lib.hid hn
    have hP := path_data xs h0
    have HP := Lib.hid hP; have HX := Lib.hid hx
    have hnl : n ≤ 100 := by omega
    generalize pathS xs = P at HP
    clear h hn hcm hnc hP hx hl h0
    go_enter Tryz.func28, Tryz.ntmps28
    go_wp2_with fail
    clear hn0 hn0b
    go_loop [3, 11] (fun ov iv => ∃ (k : Nat) (acc : ByteArray), k ≤ n ∧ iv = .int .i64 k ∧ ov = .string acc ∧ Hid (acc.data.toList = (xs.take k).flatMap fun y => 47 :: y.data.toList)) (fun _ iv => n - (intOf iv).toNat)
    case atStart => exact ⟨0, ⟨#[]⟩, by omega, rfl, rfl, Lib.hid rfl⟩
    case round =>
      obtain ⟨k, acc, hk, rfl, rfl, ha⟩ := hrel
      by_cases hlt : k < n
      · have l1 : (k : Int) < (n : Int) := by omega
        have l0 : (0 : Int) ≤ (k : Int) := by omega
        have hkl : k < xs.length := by have := HN.out; omega
        obtain ⟨g, off, rfl, _, hcell⟩ := HS.out.at (k := k) hkl
        obtain ⟨x, hx⟩ : ∃ x, x = xs.getD k ⟨#[]⟩ := ⟨_, rfl⟩
        rw [← hx] at hcell
        have hxm : x ∈ xs := by rw [hx]; simp [List.getD, hkl]
        have hxs := HX.out x hxm
        have has : acc.size ≤ 1001 * 100 := by
          have h1 : acc.size = acc.data.toList.length := rfl
          have h2 := pathL_small (xs.take k) (fun y hy => HX.out y (List.mem_of_mem_take hy))
          rw [h1, ha.out]
          rw [List.length_take] at h2
          omega
        have hs1 : ¬ 9223372036854775807 < acc.size + 1 := by omega
        have hs2 : ¬ 9223372036854775807 < acc.size + 1 + x.size := by omega
        have hnext : Hid (((acc ++ (⟨#[47]⟩ : ByteArray)) ++ x).data.toList = (xs.take (k + 1)).flatMap fun y => 47 :: y.data.toList) := by
          show _ = _
          have e : xs.take (k + 1) = xs.take k ++ [x] := by
            rw [List.take_add_one, hx, List.getD_eq_getElem?_getD, List.getElem?_eq_getElem hkl]; rfl
          rw [cat_data, cat_data, ha.out, e]
          simp
        clear hx hxm hxs has ha hkl
        go_wp2_with fail
        go_round
        case rel => exact ⟨k + 1, _, by omega, by go_num, rfl, hnext⟩
        case measure => simp [intOf]; omega
      · obtain rfl : k = n := by omega
        have hend : acc = P := by
          apply str_ext
          rw [HP.out, ha.out, HN.out, List.take_length]
        subst hend
        clear ha
        go_wp2_with fail
        go_ret
        exact ⟨rfl, rfl⟩

/-- The actions and names that numbers stand for. -/
def actL : List ByteArray := [⟨#[114, 101, 97, 100]⟩, ⟨#[119, 114, 105, 116, 101]⟩, ⟨#[114, 117, 110]⟩, ⟨#[114, 101, 97, 100]⟩, ⟨#[119, 114, 105, 116, 101]⟩, ⟨#[114, 101, 97, 100]⟩, ⟨#[]⟩, ⟨#[98, 121]⟩, ⟨#[82, 101, 97, 100]⟩, ⟨#[97, 95, 118, 101, 114, 121, 95, 108, 111, 110, 103, 95, 97, 99, 116, 105, 111, 110]⟩]
def pnmL : List ByteArray := [⟨#[97]⟩, ⟨#[98]⟩, ⟨#[99]⟩, ⟨#[97]⟩, ⟨#[98]⟩, ⟨#[100, 46, 49]⟩, ⟨#[120, 45, 121]⟩, ⟨#[97]⟩, ⟨#[95]⟩, ⟨#[46, 46]⟩, ⟨#[46]⟩, ⟨#[]⟩, ⟨#[65]⟩, ⟨#[116, 104, 105, 114, 116, 101, 101, 110, 45, 108, 111, 110, 103]⟩]
def actS (n : Nat) : ByteArray := actL.getD (n % 10) ⟨#[]⟩
def pnmS (b : Nat) : ByteArray := pnmL.getD (b % 14) ⟨#[]⟩
def rawN (xs : List Nat) : List ByteArray := (xs.take 10).map pnmS
def rawS (xs : List Nat) : ByteArray := pathS (rawN xs)
theorem actS_size (n : Nat) : (actS n).size ≤ 18 := by
  unfold actS
  have h : ∀ k : Fin 10, (actL.getD k.val ⟨#[]⟩).size ≤ 18 := by decide +kernel
  exact h ⟨n % 10, Nat.mod_lt _ (by omega)⟩
theorem pnmS_size (b : Nat) : (pnmS b).size ≤ 13 := by
  unfold pnmS
  have h : ∀ k : Fin 14, (pnmL.getD k.val ⟨#[]⟩).size ≤ 13 := by decide +kernel
  exact h ⟨b % 14, Nat.mod_lt _ (by omega)⟩
theorem rawN_length (xs : List Nat) : (rawN xs).length = min 10 xs.length := by unfold rawN; simp
theorem rawN_size (xs : List Nat) : ∀ x ∈ rawN xs, x.size ≤ 13 := fun x hx => by
  unfold rawN at hx
  obtain ⟨b, _, rfl⟩ := List.mem_map.1 hx
  exact pnmS_size b
theorem rawS_size (xs : List Nat) : (rawS xs).size ≤ 20000 := by
  have hl := rawN_length xs
  by_cases h0 : rawN xs = []
  · unfold rawS; rw [h0]; decide
  · have h1 : (rawS xs).size = (rawS xs).data.toList.length := rfl
    have h2 := pathL_small (rawN xs) (fun y hy => by have := rawN_size xs y hy; omega)
    have h3 : (rawS xs).data.toList = (rawN xs).flatMap (fun y => 47 :: y.data.toList) := path_data _ h0
    rw [h1, h3]
    omega

set_option maxRecDepth 100000 in
set_option maxHeartbeats 1600000 in
theorem raction_any (n : Nat) (w : World) (hn : n < 256) : Calls Tryz.prog 10 #[.int .u8 n] w fun e w' => e = .returned (.string (actS n)) ∧ Kept (fun _ => False) w w' := by
  have hk := Kept.alloc (fun _ => False) w (.cells (actL.map Value.string).toArray 9)
  have hwl : actL.length = 10 := rfl
  obtain ⟨r, hr⟩ : ∃ r, r = n % 10 := ⟨_, rfl⟩
  have hr20 : r < 10 := by omega
  unfold actS
  rw [← hr]
  obtain ⟨x, hx⟩ : ∃ x, x = actL.getD r ⟨#[]⟩ := ⟨_, rfl⟩
  rw [← hx]
  have hli : ∀ p : r < (actL.map Value.string).length, (actL.map Value.string)[r]'p = .string x := fun p => by
    have hr2 : r < actL.length := by rw [hwl]; exact hr20
    rw [List.getElem_map, hx]
    simp [List.getD, hr2]
  have HK := Lib.hid hk; have HLI := Lib.hid hli
  have hE : IntKind.i64.wrap (n : Int) = (n : Int) ∧ (n : Int).tmod 10 = (r : Int) ∧ (n : Int) % 10 = (r : Int) := ⟨IntWalk.i64_in _ (by omega), by rw [Int.tmod_eq_emod_of_nonneg (by omega)]; omega, by omega⟩
  have l0 : (0 : Int) ≤ (r : Int) := by omega
  have l1 : (r : Int) < 10 := by omega
  clear hk hwl hr hx hli
  obtain ⟨e1, e2, e3⟩ := hE
  go_enter Tryz.func10, Tryz.ntmps10
  go_wp2_with fail
  go_ret
  exact ⟨congrArg Ending.returned (HLI.out _), HK.out⟩

theorem rawN_next (xs : List Nat) (k : Nat) (hk : k < xs.length) (h10 : k < 10) : (xs.take (k + 1)).map pnmS = (xs.take k).map pnmS ++ [pnmS (xs.getD k 0)] := by
  rw [List.take_add_one, List.map_append, List.getElem?_eq_getElem hk]
  simp [List.getD, hk]

/-- What Path's loop keeps. -/
structure RawInv (w wr : World) (v : Value) (k : Nat) (xs : List Nat) : Prop where
  own : OwnS wr (w.heap.size + 1) v ((xs.take k).map pnmS)
  kept : Kept (fun _ => False) w wr
  row14 : Strs wr (.slice (some ⟨w.heap.size, 0, none⟩) 14 14) pnmL

set_option maxRecDepth 100000 in
set_option maxHeartbeats 3200000 in
theorem rpath_any (v : Value) (xs : List Nat) (B : Nat) (w : World) (h : Loose w v xs B) (hx : ∀ x ∈ xs, x < 256) (hl : xs.length ≤ maxLen) :
    Calls Tryz.prog 11 #[v] w fun e w' => e = .returned (.string (rawS xs)) ∧ Kept (fun _ => False) w w' := by
  obtain ⟨a, c, rfl⟩ := h.form
  have HL := Lib.hid h
  have HX := Lib.hid hx
  have HRL := Lib.hid (rawN_length xs)
  have HRS := Lib.hid (rawN_size xs)
  unfold maxLen at hl
  obtain ⟨V, hV⟩ : ∃ V, V = rawS xs := ⟨_, rfl⟩
  rw [← hV]
  have HV := Lib.hid hV
  obtain ⟨n, hn⟩ : ∃ n, n = xs.length := ⟨_, rfl⟩
  rw [← hn] at HL hl ⊢
  have HN := Lib.hid hn
  have hnb : n ≤ 9223372036854775807 := by omega
  have hst := strs_new w (pnmL.map Value.string).toArray 9 14 pnmL rfl (by simp) (by unfold maxLen; omega)
  have HST := Lib.hid hst
  have HK1 := Lib.hid (Kept.alloc (fun _ => False) w (.cells (pnmL.map Value.string).toArray 9))
  have hsz1 : (w.alloc (.cells (pnmL.map Value.string).toArray 9)).heap.size = w.heap.size + 1 := by simp
  have HSZ1 := Lib.hid hsz1
  clear h hx hV hn hl hst hsz1
  go_enter Tryz.func11, Tryz.ntmps11
  go_wp2_with fail
  have HI0 : Hid (RawInv w (w.alloc (.cells (pnmL.map Value.string).toArray 9)) (.slice none 0 0) 0 xs) := ⟨OwnS.nil _ _, HK1.out, HST.out⟩
  go_loopw [4, 5] (fun lv iv wr => ∃ (k : Nat) (aa : Option Addr) (cc : Nat), k ≤ n ∧ k ≤ 10 ∧ iv = .int .i64 (k : Int) ∧ lv = .slice aa k cc ∧ Hid (RawInv w wr (.slice aa k cc) k xs)) (fun _ iv _ => n - (intOf iv).toNat)
  case atStart => exact ⟨0, none, 0, Nat.zero_le _, Nat.zero_le _, rfl, rfl, HI0⟩
  case round =>
    obtain ⟨k, aa, cc, hkn, hk10, rfl, rfl, hI⟩ := hrel
    clear HI0 HST HK1 HSZ1
    by_cases hlt : k < n ∧ k < 10
    · obtain ⟨hlt1, hlt2⟩ := hlt
      have l1 : (k : Int) < (n : Int) := by omega
      have l2 : (k : Int) < 10 := by omega
      have l0 : (0 : Int) ≤ (k : Int) := by omega
      have hkx : k < xs.length := by have := HN.out; omega
      obtain ⟨g, off, rfl, hc⟩ := (HL.out.kept hI.out.kept (fun _ _ h => h)).at (k := k) hkx
      have hb : xs.getD k 0 < 256 := HX.out _ (by rw [List.getD_eq_getElem?_getD, List.getElem?_eq_getElem hkx]; exact List.getElem_mem _)
      have hnext := rawN_next xs k hkx hlt2
      obtain ⟨b, hbe⟩ : ∃ b, b = xs.getD k 0 := ⟨_, rfl⟩
      rw [← hbe] at hc hb hnext
      obtain ⟨q, hq, hq14⟩ : ∃ q, q = b % 14 ∧ q < 14 := ⟨_, rfl, Nat.mod_lt _ (by omega)⟩
      obtain ⟨g2, off2, e, hg2, hc2⟩ := hI.out.row14.at (k := q) hq14
      obtain ⟨rfl, rfl⟩ : g2 = w.heap.size ∧ off2 = 0 := by
        injection e with e; injection e with e1 e2; exact ⟨e1.symm, e2.symm⟩
      rw [Nat.zero_add] at hc2
      have hpx : pnmL.getD q ⟨#[]⟩ = pnmS b := by rw [hq]; rfl
      rw [hpx] at hc2
      generalize pnmS b = x at hc2 hnext
      have hE : IntKind.i64.wrap (b : Int) = (b : Int) ∧ (b : Int).tmod 14 = (q : Int) ∧ (b : Int) % 14 = (q : Int) := ⟨IntWalk.i64_in _ (by omega), by rw [Int.tmod_eq_emod_of_nonneg (by omega)]; omega, by omega⟩
      have q0 : (0 : Int) ≤ (q : Int) := by omega
      have q1 : (q : Int) < 14 := by omega
      have HNX := Lib.hid hnext
      have hal : ((xs.take k).map pnmS).length = k := by rw [List.length_map, List.length_take]; omega
      generalize hacc : (xs.take k).map pnmS = acc at hal HNX
      have HO : Hid (OwnS wr (w.heap.size + 1) (.slice aa k cc) acc) := by have h := hI.out.own; rw [hacc] at h; exact Lib.hid h
      have HKW := Lib.hid hI.out.kept; have HR14 := Lib.hid hI.out.row14; have HAL := Lib.hid hal
      have hszw : w.heap.size < wr.heap.size := hg2
      clear hI hq hbe hnext hkx hb hacc hal hpx e hg2
      obtain ⟨e1, e2, e3⟩ := hE
      go_wp2_with (at_builtin; refine wpList_pushS (by rfl) _ _ rfl rfl (w.heap.size + 1) _ acc wr.heap.size x rfl rfl (HO.out.alloc _) (by go_simp) (by have := HAL.out; omega) (by simp; omega) ?_; intro a' c' w3 hown hk3; have HOWN := Lib.hid hown; have HKK := Lib.hid hk3; clear hown hk3)
      have hbl : ∀ i, (Value.slice aa k cc).ownBlock = some i → w.heap.size + 1 ≤ i := fun i e => (HO.out.bound i e).1
      have HI3 : Hid (RawInv w w3 (.slice a' (k + 1) c') (k + 1) xs) := ⟨by rw [HNX.out]; have := HOWN.out; rw [HAL.out] at this; exact this,
        (HKW.out.then (Kept.alloc _ _ _)).trans HKK.out (fun _ _ h => h) (fun i hi e => by have := hbl i e; omega),
        (HR14.out.kept (Kept.alloc (fun _ => False) _ _) (fun _ _ h => h)).kept HKK.out (fun i hi e => by cases hi; have h : w.heap.size + 1 ≤ w.heap.size := hbl _ e; omega)⟩
      have hl := HAL.out
      go_roundw
      case rel => exact ⟨k + 1, a', c', by omega, by omega, by go_num, by rw [hl], HI3⟩
      case measure => simp [intOf]; omega
    · have hend : (xs.take k).map pnmS = rawN xs := by
        unfold rawN
        have : xs.take k = xs.take 10 := by
          rcases Nat.lt_or_ge k n with h | h
          · rw [show k = 10 by omega]
          · rw [List.take_of_length_le (by have := HN.out; omega), List.take_of_length_le (by have := HN.out; omega)]
        rw [this]
      have hstr : Strs wr (.slice aa k cc) (rawN xs) := by
        have h := hI.out.own
        rw [hend] at h
        exact Strs.ofOwn (B := w.heap.size + 1) h
      have hj := rjoin11_any _ (rawN xs) wr hstr (by have := HRL.out; omega) (fun y hy => by have := HRS.out y hy; omega)
      rw [show pathS (rawN xs) = V from HV.out.symm] at hj
      have HJ := Lib.hid hj
      have HKW := Lib.hid hI.out.kept
      clear hj hstr hend hI
      by_cases hl1 : k < n
      · have l1 : (k : Int) < (n : Int) := by omega
        have l2 : ¬ (k : Int) < 10 := by omega
        go_wp2_with fail
        refine HJ.out.mono ?_
        rintro e w2 ⟨rfl, rfl⟩
        go_wp2_with fail
        go_ret
        exact ⟨rfl, HKW.out⟩
      · have l1 : ¬ (k : Int) < (n : Int) := by omega
        go_wp2_with fail
        refine HJ.out.mono ?_
        rintro e w2 ⟨rfl, rfl⟩
        go_wp2_with fail
        go_ret
        exact ⟨rfl, HKW.out⟩
end Go.Proofs.YtnnakllgfaaejaaGreatDoor
