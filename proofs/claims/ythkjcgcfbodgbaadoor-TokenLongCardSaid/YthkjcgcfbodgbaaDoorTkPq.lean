/-
  Tokens: what is scanned from a Join of tokens (plain words).
-/
import Derived.Test.YthkjcgcfbodgbaaDoorTkP
import Derived.Test.YthkjcgcfbodgbaaDoorTkO
import Derived.Test.YthkjcgcfbodgbaaDoorTkPl
namespace Go.Proofs.YthkjcgcfbodgbaaDoor
open Go.RowKit
set_option linter.unusedSimpArgs false
set_option linter.unusedVariables false

theorem scan_mem (L : List Nat) : ∀ f i, ∀ y ∈ (scanF L f i).1, y.1 ≠ 0 ∧ y.2.1 < L.length ∧ firstT (L.drop y.2.1) = (y.1, y.2.2.1, y.2.2.2)
  | 0, i, y, hy => by simp [scanF] at hy
  | f + 1, i, y, hy => by
    rw [scanF] at hy
    split at hy
    · rename_i hi
      split at hy
      · simp at hy
      · rename_i h0
        simp only [List.mem_cons] at hy
        rcases hy with rfl | hy
        · exact ⟨h0, hi, rfl⟩
        · exact scan_mem L f _ y hy
    · simp at hy
theorem scan_sum (L : List Nat) : ∀ f i, i ≤ L.length → ((scanF L f i).1.map (·.2.2.1)).sum ≤ L.length - i ∧ (scanF L f i).1.length ≤ L.length - i
  | 0, i, hi => by simp [scanF]
  | f + 1, i, hi => by
    rw [scanF]
    split
    · rename_i hlt
      split
      · simp
      · rename_i h0
        have hl := firstT_len _ h0
        rw [List.length_drop] at hl
        have hs := skipT_le L (i + (firstT (L.drop i)).2.1) (by omega)
        have ih := scan_sum L f (skipT L (i + (firstT (L.drop i)).2.1)) (by omega)
        simp only [List.map_cons, List.sum_cons, List.length_cons]
        omega
    · simp
theorem joinN_len : ∀ xs : List (List Nat), (joinN xs).length ≤ (xs.map (·.length)).sum + xs.length
  | [] => by simp [joinN]
  | [x] => by simp [joinN]
  | x :: y :: t => by
    have ih := joinN_len (y :: t)
    simp only [joinN, List.length_append, List.length_cons, List.map_cons, List.sum_cons] at ih ⊢
    omega
theorem join_nat : ∀ xs : List ByteArray, (joinL xs).map UInt8.toNat = joinN (xs.map strB)
  | [] => by simp [joinL, Lib.join_nil, joinN]
  | [x] => by simp [joinL, Lib.join_one, joinN, strB]
  | x :: y :: t => by
    have ih := join_nat (y :: t)
    have e : joinL (x :: y :: t) = x.data.toList ++ 32 :: joinL (y :: t) := by
      unfold joinL
      rw [List.map_cons, List.map_cons, Lib.join_cons, Lib.join_cons]
      unfold Lib.joinTail
      simp
    rw [e, List.map_append, List.map_cons, ih]
    rfl
theorem strB_joinB (xs : List ByteArray) : strB (joinB xs) = joinN (xs.map strB) := by
  rw [← join_nat]
  unfold strB joinB
  simp

/-- The token of a piece, a kind and a value, without a place. -/
def ofP (x : List Nat × Nat × Nat) : Tok := ⟨x.2.1, ⟨(x.1.map UInt8.ofNat).toArray⟩, (x.2.2 : Nat), 0⟩
theorem ext_take (s : ByteArray) (i n : Nat) : strB (s.extract i (i + n)) = ((strB s).drop i).take n := by
  unfold strB
  rw [ext_list, show i + n - i = n by omega, List.map_take, List.map_drop]
theorem zT_tokOf (s : ByteArray) (x : Nat × Nat × Nat × Nat) : zT (tokOf s x) = ofP (((strB s).drop x.2.1).take x.2.2.1, x.1, x.2.2.2) := by
  have e : s.extract x.2.1 (x.2.1 + x.2.2.1) = ⟨((((strB s).drop x.2.1).take x.2.2.1).map UInt8.ofNat).toArray⟩ := by
    apply str_extT
    rw [← ext_take]
    unfold strB
    rw [List.map_map]
    have : (UInt8.ofNat ∘ UInt8.toNat) = id := by
      funext b
      simp
    rw [this, List.map_id]
  unfold zT tokOf ofP
  simp only [e]

theorem skip_join {ps : List (List Nat × Nat × Nat)} (h : ∀ x ∈ ps, IsTok x.1 x.2.1 x.2.2) : skipT (joinN (ps.map (·.1))) 0 = 0 := by
  cases ps with
  | nil => rfl
  | cons p t =>
    have hp := h p (by simp)
    obtain ⟨r, hr, _⟩ := joinN_head (p := p.1) (t := t.map (·.1))
    have e : joinN ((p :: t).map (·.1)) = p.1 ++ r := hr
    unfold skipT
    rw [List.drop_zero, e, skipN_head hp.some hp.head]

theorem scan_again {t : ByteArray} (h0 : (scanS t).2.2 = 0) (h4 : t.size ≤ 400) :
    (joinL (textsS (scanS t).1)).length ≤ 8000 ∧ (scanS (joinB (textsS (scanS t).1))).2 = (0, 0) ∧ (scanS (joinB (textsS (scanS t).1))).1.map zT = (scanS t).1.map zT := by
  have h8 : ¬ 8000 < t.size := by omega
  have hn : (scanL t).2 = none := by
    cases hq : (scanL t).2 with
    | none => rfl
    | some i => rw [scanS_bad h8 hq] at h0; cases h0
  rw [scanS_ok h8 hn]
  simp only
  have hmem := scan_mem (strB t) (t.size + 1) (skipT (strB t) 0)
  have hsk := skipT_le (strB t) 0 (Nat.zero_le _)
  have hsum := scan_sum (strB t) (t.size + 1) (skipT (strB t) 0) hsk.2
  change ∀ y ∈ (scanL t).1, _ at hmem
  change ((scanL t).1.map (·.2.2.1)).sum ≤ _ ∧ (scanL t).1.length ≤ _ at hsum
  rw [strB_len] at hsum
  generalize (scanL t).1 = ys at hmem hsum ⊢
  obtain ⟨ps, hps⟩ : ∃ ps, ps = ys.map (fun x => (((strB t).drop x.2.1).take x.2.2.1, x.1, x.2.2.2)) := ⟨_, rfl⟩
  have htok : ∀ x ∈ ps, IsTok x.1 x.2.1 x.2.2 := fun x hx => by
    rw [hps, List.mem_map] at hx
    obtain ⟨y, hy, rfl⟩ := hx
    obtain ⟨a1, a2, a3⟩ := hmem y hy
    have := isTok_of (l := (strB t).drop y.2.1) (by rw [a3]; exact a1)
    rw [a3] at this
    exact this
  have htx : (textsS (ys.map (tokOf t) ++ [endTok t])).map strB = ps.map (·.1) := by
    have e : textsS (ys.map (tokOf t) ++ [endTok t]) = ys.map (fun y => (tokOf t y).t) := by
      unfold textsS
      rw [List.filter_append, List.map_append]
      have e1 : (ys.map (tokOf t)).filter (fun x => decide (x.k ≠ 0)) = ys.map (tokOf t) := by
        rw [List.filter_eq_self]
        intro x hx
        obtain ⟨y, hy, rfl⟩ := List.mem_map.1 hx
        exact decide_eq_true (hmem y hy).1
      rw [e1, List.map_map]
      simp [endTok, List.filter]
    rw [e, hps, List.map_map, List.map_map]
    refine List.map_congr_left fun y hy => ?_
    show strB (t.extract y.2.1 (y.2.1 + y.2.2.1)) = _
    rw [ext_take]
    rfl
  have hJ : strB (joinB (textsS (ys.map (tokOf t) ++ [endTok t]))) = joinN (ps.map (·.1)) := by
    rw [strB_joinB, htx]
  have hlen : (joinN (ps.map (·.1))).length ≤ 2 * t.size := by
    have h1 := joinN_len (ps.map (·.1))
    have h2 : ((ps.map (·.1)).map (·.length)).sum ≤ (ys.map (·.2.2.1)).sum := by
      rw [hps]
      simp only [List.map_map]
      clear hmem hsum hps htok htx hJ h1
      induction ys with
      | nil => simp
      | cons y u ih =>
        simp only [List.map_cons, List.sum_cons, Function.comp_apply, List.length_take] at ih ⊢
        omega
    have h3 : (ps.map (·.1)).length = ys.length := by rw [hps]; simp
    omega
  have hsz : (joinL (textsS (ys.map (tokOf t) ++ [endTok t]))).length = (joinN (ps.map (·.1))).length := by
    rw [← hJ, strB_len, joinB_size]
  generalize textsS (ys.map (tokOf t) ++ [endTok t]) = xs at hJ hsz ⊢
  have hsc := scan_join ps htok (strB (joinB xs)) 0 ((joinB xs).size + 1) (by rw [List.drop_zero, hJ]) (by rw [strB_len]; omega)
  have hs0 : skipT (strB (joinB xs)) 0 = 0 := by rw [hJ]; exact skip_join htok
  have hL : scanL (joinB xs) = scanF (strB (joinB xs)) ((joinB xs).size + 1) 0 := by unfold scanL; rw [hs0]
  rw [← hL] at hsc
  have hJ8 : ¬ 8000 < (joinB xs).size := by rw [joinB_size, hsz]; omega
  rw [scanS_ok hJ8 hsc.1]
  refine ⟨by omega, rfl, ?_⟩
  simp only [List.map_append, List.map_map, List.map_cons, List.map_nil]
  congr 1
  have e1 : ∀ (s : ByteArray) (zs : List (Nat × Nat × Nat × Nat)), zs.map (zT ∘ tokOf s) = (zs.map (fun x => (((strB s).drop x.2.1).take x.2.2.1, x.1, x.2.2.2))).map ofP := fun s zs => by
    rw [List.map_map]
    exact List.map_congr_left fun x _ => zT_tokOf s x
  rw [e1, e1, hsc.2, hps]
end Go.Proofs.YthkjcgcfbodgbaaDoor
