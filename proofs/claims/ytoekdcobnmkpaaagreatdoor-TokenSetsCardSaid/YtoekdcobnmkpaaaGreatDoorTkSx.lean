/-
  Plain words for TokenSets: the text of a set without its braces is its members with blanks between them; with commas in their place.
-/
import Derived.Test.YtoekdcobnmkpaaaGreatDoorTkSe
import Derived.Test.YtoekdcobnmkpaaaGreatDoorTkSq
import Derived.Lib.Replace
import Derived.Lib.SlTrimSet
namespace Go.Proofs.YtoekdcobnmkpaaaGreatDoor
open Go.RowKit
set_option linter.unusedSimpArgs false
set_option linter.unusedVariables false

def toComma (b : UInt8) : UInt8 := if b = 32 then 44 else b
theorem comma_none {l : List UInt8} (h : (32 : UInt8) ∉ l) : l.map toComma = l := by
  induction l with
  | nil => rfl
  | cons b t ih =>
    have hb : b ≠ 32 := fun e => h (by simp [e])
    rw [List.map_cons, ih (fun e => h (List.mem_cons_of_mem _ e)), toComma, if_neg hb]
theorem rep_k : ∀ (k : Nat) (l : List UInt8), l.count 32 = k → Lib.replaceK [32] [44] k l = l.map toComma
  | 0, l, h => by rw [Lib.replaceK, comma_none (List.count_eq_zero.1 h)]
  | k + 1, l, h => by
    obtain ⟨i, h1, h2, h3, h4⟩ := idx_dec l 32 (List.count_pos_iff.1 (by omega))
    rw [Lib.replaceK_hit [32] [44] k l i (by rw [index_oneT]; exact h1)]
    have hc : (l.drop (i + 1)).count 32 = k := by
      rw [h3, List.count_append, List.count_cons_self, List.count_eq_zero.2 h4] at h
      omega
    rw [show l.drop (i + ([32] : List UInt8).length) = l.drop (i + 1) from rfl, rep_k k _ hc]
    conv => rhs; rw [h3]
    rw [List.map_append, List.map_cons, comma_none h4, List.append_assoc]
    rfl
/-- strings.ReplaceAll of blanks by commas. -/
theorem replace_comma (l : List UInt8) : Lib.replaceAll l [32] [44] = l.map toComma := by
  unfold Lib.replaceAll Lib.replace Lib.replaceNum
  rw [if_neg (by decide), if_pos (Or.inl (by decide)), Lib.count_one]
  exact rep_k _ l rfl

/-- Numbers in decimal with blanks between them. -/
def joinI : List Int → List UInt8
  | [] => []
  | x :: t => Lib.itoa x ++ t.flatMap (fun y => 32 :: Lib.itoa y)
theorem itoa_nat {x : Int} (h : 0 ≤ x) : (Lib.itoa x).map UInt8.toNat = decN x.toNat := by
  unfold Lib.itoa decN
  rw [if_neg (by omega)]
theorem itoa_ne {x : Int} (h : 0 ≤ x) : Lib.itoa x ≠ [] := fun e => by
  have h2 := itoa_nat h
  rw [e] at h2
  exact (decN_num x.toNat x.toNat (Nat.lt_of_lt_of_le (Nat.lt_pow_self (by decide)) (Nat.pow_le_pow_right (by decide) (Nat.le_succ _)))).1 h2.symm
theorem fold_long : ∀ (xs : List Int) (p : List UInt8), 1 < p.length → xs.foldl (fun p x => (if 1 < p.length then p ++ [32] else p) ++ Lib.itoa x) p = p ++ xs.flatMap (fun y => 32 :: Lib.itoa y)
  | [], p, _ => by simp
  | x :: t, p, h => by
    rw [List.foldl_cons, if_pos h, fold_long t _ (by rw [List.length_append, List.length_append]; omega), List.flatMap_cons]
    simp
theorem fold_join (xs : List Int) (h : ∀ x ∈ xs, 0 ≤ x) : xs.foldl (fun p x => (if 1 < p.length then p ++ [32] else p) ++ Lib.itoa x) [123] = 123 :: joinI xs := by
  cases xs with
  | nil => rfl
  | cons x t =>
    have hl := List.length_pos_iff.2 (itoa_ne (h x (by simp)))
    rw [List.foldl_cons, if_neg (by simp), fold_long t _ (by rw [List.length_append]; simp; omega)]
    rfl
theorem joinI_cons2 (x y : Int) (t : List Int) : joinI (x :: y :: t) = Lib.itoa x ++ 32 :: joinI (y :: t) := by
  simp [joinI]
theorem joinI_nat : ∀ xs : List Int, (∀ x ∈ xs, 0 ≤ x) → (joinI xs).map UInt8.toNat = joinN (xs.map (fun x => decN x.toNat))
  | [], _ => rfl
  | [x], h => by
    have hx := itoa_nat (h x (by simp))
    simp [joinI, joinN, hx]
  | x :: y :: t, h => by
    have hx := itoa_nat (h x (by simp))
    have ih := joinI_nat (y :: t) (fun z hz => h z (List.mem_cons_of_mem _ hz))
    rw [joinI_cons2, List.map_append, List.map_cons, ih, hx]
    rfl
theorem itoa_dig {x : Int} (h : 0 ≤ x) : ∀ b ∈ Lib.itoa x, 48 ≤ b.toNat ∧ b.toNat ≤ 57 := fun b hb => by
  have h2 := itoa_nat h
  have hm : b.toNat ∈ decN x.toNat := by rw [← h2]; exact List.mem_map.2 ⟨b, hb, rfl⟩
  have := (decN_num x.toNat x.toNat (Nat.lt_of_lt_of_le (Nat.lt_pow_self (by decide)) (Nat.pow_le_pow_right (by decide) (Nat.le_succ _)))).2.1 _ hm
  unfold digB at this
  simpa using this
theorem joinI_comma : ∀ xs : List Int, (∀ x ∈ xs, 0 ≤ x) → ((joinI xs).map toComma).map UInt8.toNat = joinC (xs.map (fun x => decN x.toNat))
  | [], _ => rfl
  | [x], h => by
    have hx := itoa_nat (h x (by simp))
    have hn : (32 : UInt8) ∉ Lib.itoa x := fun e => by have := itoa_dig (h x (by simp)) _ e; simp at this
    have e : joinI [x] = Lib.itoa x := by simp [joinI]
    rw [e, comma_none hn, hx]; rfl
  | x :: y :: t, h => by
    have hx := itoa_nat (h x (by simp))
    have hn : (32 : UInt8) ∉ Lib.itoa x := fun e => by have := itoa_dig (h x (by simp)) _ e; simp at this
    have ih := joinI_comma (y :: t) (fun z hz => h z (List.mem_cons_of_mem _ hz))
    rw [joinI_cons2, List.map_append, List.map_append, List.map_cons, List.map_cons, ih, comma_none hn, hx]
    rfl
theorem joinI_bytes : ∀ xs : List Int, (∀ x ∈ xs, 0 ≤ x) → ∀ b ∈ joinI xs, ([123, 125] : List UInt8).contains b = false
  | [], _, b, hb => by cases hb
  | x :: t, h, b, hb => by
    have hd : ∀ y, 0 ≤ y → ∀ c ∈ Lib.itoa y, ([123, 125] : List UInt8).contains c = false := fun y hy c hc => by
      have := itoa_dig hy c hc
      have n1 : c ≠ 123 := fun e => by rw [e] at this; simp at this
      have n2 : c ≠ 125 := fun e => by rw [e] at this; simp at this
      simp [n1, n2]
    rcases List.mem_append.1 hb with hb | hb
    · exact hd x (h x (by simp)) b hb
    · obtain ⟨y, hy, hb⟩ := List.mem_flatMap.1 hb
      rcases List.mem_cons.1 hb with rfl | hb
      · decide
      · exact hd y (h y (List.mem_cons_of_mem _ hy)) b hb
/-- strings.Trim at braces: what stands between them. -/
theorem trim_braces (J : List UInt8) (h : ∀ b ∈ J, ([123, 125] : List UInt8).contains b = false) : Lib.trimS (123 :: J ++ [125]) [123, 125] = J := by
  unfold Lib.trimS Lib.trimRightS Lib.trimLeftS
  have e1 : (123 :: J ++ [125]).reverse = 125 :: (J.reverse ++ [123]) := by simp
  rw [e1, List.dropWhile_cons_of_pos (by decide)]
  cases hJ : J.reverse with
  | nil =>
    have : J = [] := by simpa using hJ
    subst this
    rfl
  | cons b t =>
    have hb : b ∈ J := List.mem_reverse.1 (by rw [hJ]; simp)
    rw [List.cons_append, List.dropWhile_cons_of_neg (by rw [h b hb]; decide), ← List.cons_append, ← hJ]
    have e2 : (J.reverse ++ [123]).reverse = 123 :: J := by simp
    rw [e2, List.dropWhile_cons_of_pos (by decide)]
    cases J with
    | nil => rfl
    | cons c u => rw [List.dropWhile_cons_of_neg (by rw [h c (by simp)]; decide)]
end Go.Proofs.YtoekdcobnmkpaaaGreatDoor
