/-
  Plain words on names.Read: what the bytes of a table say. No call is walked here.
-/
import Derived.Test.YtneappinkfhjmaaDoorNamEm
import Derived.Test.YtneappinkfhjmaaDoorRStr
import Derived.Test.YtneappinkfhjmaaDoorPieceM
namespace Go.Proofs.YtneappinkfhjmaaDoor
open Go.RowKit

theorem numLoop_canon8 : ∀ (t : List Nat) (v i x n : Nat), (∀ b ∈ t, b < 256) → v ≠ 0 → numLoop v i t = (x, n) → n ≠ 0 → i < n ∧ encHi v ++ t.take (n - i) = enc x
  | [], v, i, x, n, _, _, h, hn => by
    rw [numLoop] at h
    cases h
    exact absurd rfl hn
  | b :: t, v, i, x, n, hb, hv, h, hn => by
    rw [numLoop] at h
    have hb0 := hb b List.mem_cons_self
    by_cases h1 : v / 144115188075855872 ≠ 0
    · rw [if_pos h1] at h
      cases h
      exact absurd rfl hn
    · rw [if_neg h1] at h
      by_cases h2 : b < 128
      · rw [if_pos h2] at h
        cases h
        refine ⟨by omega, ?_⟩
        rw [show i + 1 - i = 1 by omega, enc, show (v * 128 + b % 128) / 128 = v by omega, show (v * 128 + b % 128) % 128 = b by omega]
        rfl
      · rw [if_neg h2] at h
        have ⟨h3, h4⟩ := numLoop_canon8 t _ _ x n (fun y hy => hb y (List.mem_cons_of_mem _ hy)) (by omega) h hn
        refine ⟨by omega, ?_⟩
        rw [← h4, encHi_pos (v := v * 128 + b % 128) (by omega), show (v * 128 + b % 128) / 128 = v by omega, show (v * 128 + b % 128) % 128 + 128 = b by omega,
          show n - i = (n - (i + 1)) + 1 by omega, List.take_succ_cons, List.append_assoc]
        rfl

theorem number_canon8 (p : List Nat) (hb : ∀ b ∈ p, b < 256) (hn : (numberS p).2 ≠ 0) : p = enc (numberS p).1 ++ p.drop (numberS p).2 := by
  have key : p.take (numberS p).2 = enc (numberS p).1 := by
    revert hn
    unfold numberS
    split
    · intro h; exact absurd rfl h
    · rename_i hh
      intro hn
      cases p with
      | nil => exact absurd rfl hn
      | cons b t =>
        have hb0 := hb b List.mem_cons_self
        rw [numLoop] at hn ⊢
        rw [if_neg (by simp)] at hn ⊢
        by_cases h2 : b < 128
        · rw [if_pos h2]
          simp only [Nat.zero_mul, Nat.zero_add]
          rw [enc, Nat.div_eq_of_lt (by omega), encHi_zero, show b % 128 % 128 = b by omega]
          rfl
        · rw [if_neg h2] at hn ⊢
          have hne : b ≠ 128 := by
            intro e
            subst e
            cases t with
            | nil => rw [numLoop] at hn; exact hn rfl
            | cons c u => exact hh ⟨by simp, rfl⟩
          have ⟨h3, h4⟩ := numLoop_canon8 t (0 * 128 + b % 128) (0 + 1) _ _ (fun y hy => hb y (List.mem_cons_of_mem _ hy)) (by omega) rfl hn
          rw [← h4, encHi_pos (by omega), show (0 * 128 + b % 128) / 128 = 0 by omega, encHi_zero, show (0 * 128 + b % 128) % 128 + 128 = b by omega]
          obtain ⟨m, hm⟩ : ∃ m, (numLoop (0 * 128 + b % 128) (0 + 1) t).2 = m + 1 := ⟨_, (Nat.sub_add_cancel (by omega : 1 ≤ _)).symm⟩
          rw [hm, List.take_succ_cons]
          simp
  conv => lhs; rw [← List.take_append_drop (numberS p).2 p, key]

theorem piece_canon8 (xs : List Nat) (most err : Int) (hb : ∀ b ∈ xs, b < 256) :
    (pieceS xs most err).2.2 = 0 → xs = (enc (pieceS xs most err).1.length ++ (pieceS xs most err).1) ++ (pieceS xs most err).2.1 := by
  unfold pieceS
  by_cases h1 : err ≠ 0
  · rw [if_pos h1]; exact fun h => absurd h h1
  · rw [if_neg h1]
    by_cases h2 : most < 0
    · rw [if_pos h2]; intro h; simp at h
    · rw [if_neg h2]
      by_cases h3 : (numberS xs).2 = 0
      · rw [if_pos h3]; intro h; simp at h
      · rw [if_neg h3]
        by_cases h4 : most < ((numberS xs).1 : Int)
        · rw [if_pos h4]; intro h; simp at h
        · rw [if_neg h4]
          by_cases h5 : xs.length - (numberS xs).2 < (numberS xs).1
          · rw [if_pos h5]; intro h; simp at h
          · rw [if_neg h5]
            intro _
            have hc := number_canon8 xs hb h3
            have hl : ((xs.drop (numberS xs).2).take (numberS xs).1).length = (numberS xs).1 := by simp; omega
            rw [hl, List.append_assoc, ← List.drop_drop, List.take_append_drop]
            exact hc

/-- What Count gives: the number, the bytes that are left, the error. -/
def countS (xs : List Nat) (most : Nat) (err : Int) : Nat × List Nat × Int := if err = 0 then boundedS xs most 3 0 else (0, xs, err)

/-- What is read of k strings: the strings, the bytes that are left, the error. -/
def strsK (xs : List Nat) (err : Int) : Nat → List ByteArray × List Nat × Int
  | 0 => ([], xs, err)
  | k + 1 => ((strsK xs err k).1 ++ [strOf (pieceS (strsK xs err k).2.1 12 (strsK xs err k).2.2).1], (pieceS (strsK xs err k).2.1 12 (strsK xs err k).2.2).2.1, (pieceS (strsK xs err k).2.1 12 (strsK xs err k).2.2).2.2)

theorem strsK_length (xs : List Nat) (err : Int) : ∀ k, (strsK xs err k).1.length = k
  | 0 => rfl
  | k + 1 => by rw [strsK]; simp [strsK_length xs err k]
theorem strsK_byte {xs : List Nat} (err : Int) (h : ∀ b ∈ xs, b < 256) : ∀ k, ∀ b ∈ (strsK xs err k).2.1, b < 256
  | 0 => h
  | k + 1 => by
    rw [strsK]
    exact (pieceS_byte 12 _ (strsK_byte err h k)).2

/-- What names.Read gives. -/
def readS (p : List Nat) : Option (List ByteArray) :=
  if ofS 256 [] (strsK (countS p 256 0).2.1 (countS p 256 0).2.2 (countS p 256 0).1).1 = (0, (strsK (countS p 256 0).2.1 (countS p 256 0).2.2 (countS p 256 0).1).1) ∧
      (strsK (countS p 256 0).2.1 (countS p 256 0).2.2 (countS p 256 0).1).2.2 = 0 ∧ (strsK (countS p 256 0).2.1 (countS p 256 0).2.2 (countS p 256 0).1).2.1 = []
  then some (strsK (countS p 256 0).2.1 (countS p 256 0).2.2 (countS p 256 0).1).1 else none

theorem strsK_canon {xs : List Nat} (hb : ∀ b ∈ xs, b < 256) : ∀ k, (strsK xs 0 k).2.2 = 0 → xs = encL (strsK xs 0 k).1 ++ (strsK xs 0 k).2.1
  | 0, _ => by simp [strsK, encL]
  | k + 1, h => by
    have hbk := strsK_byte 0 hb k
    rw [strsK] at h ⊢
    simp only at h ⊢
    have h0 : (strsK xs 0 k).2.2 = 0 := by
      by_cases e : (strsK xs 0 k).2.2 = 0
      · exact e
      · exfalso
        rw [pieceS, if_pos e] at h
        exact e h
    have ih := strsK_canon hb k h0
    have hp := piece_canon8 (strsK xs 0 k).2.1 12 (strsK xs 0 k).2.2 hbk h
    have hpb := (pieceS_byte 12 (strsK xs 0 k).2.2 hbk).1
    generalize (strsK xs 0 k).1 = ss at ih ⊢
    generalize (strsK xs 0 k).2.1 = left at ih hp hpb ⊢
    generalize (strsK xs 0 k).2.2 = er at hp hpb ⊢
    generalize pieceS left 12 er = q at hp hpb ⊢
    rw [encL_append, encL, encL, List.append_nil, strOf_size, strOf_bytes hpb]
    conv => lhs; rw [ih, hp]
    simp only [List.append_assoc]

theorem strsK_back (ys : List ByteArray) (rest : List Nat) (hs : ∀ y ∈ ys, y.size ≤ 12) : ∀ k, k ≤ ys.length → strsK (encL ys ++ rest) 0 k = (ys.take k, encL (ys.drop k) ++ rest, 0)
  | 0, _ => by simp [strsK]
  | k + 1, hk => by
    have hk2 : k < ys.length := by omega
    have h1 := hs ys[k] (List.getElem_mem _)
    have hl := strB_length ys[k]
    rw [strsK, strsK_back ys rest hs k (by omega)]
    simp only
    rw [List.drop_eq_getElem_cons hk2, encL, List.append_assoc, ← hl, pieceS_enc (strB ys[k]) (encL (ys.drop (k + 1)) ++ rest) 12 (by omega) (by omega)]
    simp only
    rw [strOf_strB8, List.take_succ_eq_append_getElem hk2]

theorem ofS_valid {most : Int} : ∀ ys xs : List ByteArray, ofS most xs ys = (0, xs ++ ys) → ∀ y ∈ ys, y.size ≤ 12
  | [], _, _, y, hy => by simp at hy
  | z :: zs, xs, h, y, hy => by
    rw [ofS] at h
    by_cases h0 : refS xs z most = 0
    · rw [if_pos h0] at h
      rcases List.mem_cons.1 hy with rfl | hy
      · exact (refS_ok h0).1
      · exact ofS_valid zs (xs ++ [z]) (by rw [h]; simp) y hy
    · rw [if_neg h0] at h
      exact absurd (congrArg Prod.fst h) h0
theorem ofS_len {most : Int} : ∀ ys xs : List ByteArray, ofS most xs ys = (0, xs ++ ys) → ys.length = 0 ∨ xs.length + ys.length ≤ 256
  | [], _, _ => Or.inl rfl
  | z :: zs, xs, h => by
    rw [ofS] at h
    by_cases h0 : refS xs z most = 0
    · rw [if_pos h0] at h
      have h1 := (refS_ok h0).2.2.1
      rcases ofS_len zs (xs ++ [z]) (by rw [h]; simp) with h2 | h2
      · exact Or.inr (by rw [List.length_cons]; omega)
      · exact Or.inr (by rw [List.length_append, List.length_singleton] at h2; rw [List.length_cons]; omega)
    · rw [if_neg h0] at h
      exact absurd (congrArg Prod.fst h) h0
theorem refS_256 {xs : List ByteArray} {s : ByteArray} (h : refS xs s 100 = 0) : refS xs s 256 = 0 := by
  have h3 := (refS_ok h).2.2.1
  unfold refS at h ⊢
  by_cases h1 : validS s = false
  · rw [if_pos h1] at h; exact absurd h (by decide)
  · rw [if_neg h1] at h ⊢
    by_cases h2 : 0 < posS xs s
    · rw [if_pos h2] at h; exact absurd h (by decide)
    · rw [if_neg h2] at h ⊢
      rw [if_neg (by omega)]
theorem ofS_256 : ∀ ys xs : List ByteArray, ofS 100 xs ys = (0, xs ++ ys) → ofS 256 xs ys = (0, xs ++ ys)
  | [], xs, _ => by simp [ofS]
  | z :: zs, xs, h => by
    rw [ofS] at h
    by_cases h0 : refS xs z 100 = 0
    · rw [if_pos h0] at h
      have h1 : xs ++ (z :: zs) = (xs ++ [z]) ++ zs := by simp
      rw [h1] at h ⊢
      rw [ofS, if_pos (refS_256 h0), ofS_256 zs (xs ++ [z]) h]
    · rw [if_neg h0] at h
      exact absurd (congrArg Prod.fst h) h0

theorem countS_canon {p : List Nat} (hb : ∀ b ∈ p, b < 256) (h : (countS p 256 0).2.2 = 0) : p = enc (countS p 256 0).1 ++ (countS p 256 0).2.1 := by
  rw [countS, if_pos rfl] at h ⊢
  unfold boundedS at h ⊢
  by_cases h1 : (numberS p).2 = 0
  · rw [if_pos h1] at h; simp at h
  · rw [if_neg h1] at h ⊢
    by_cases h2 : 256 < (numberS p).1
    · rw [if_pos h2] at h; simp at h
    · rw [if_neg h2]
      exact number_canon8 p hb h1
theorem countS_back (n : Nat) (rest : List Nat) (h : n ≤ 256) : countS (enc n ++ rest) 256 0 = (n, rest, 0) := by
  have h1 := numberS_enc (v := n) rest (by omega)
  have h2 := enc_pos n
  rw [countS, if_pos rfl, boundedS, h1]
  simp only
  rw [if_neg (by omega), if_neg (by omega), List.drop_left]

/-- The bytes of a table are those of its names. -/
theorem readS_sound {p : List Nat} {xs : List ByteArray} (hb : ∀ b ∈ p, b < 256) (h : readS p = some xs) : p = enc xs.length ++ encL xs ∧ ofS 256 [] xs = (0, xs) := by
  unfold readS at h
  have hc := countS_canon hb
  have hcb : ∀ b ∈ (countS p 256 0).2.1, b < 256 := by
    by_cases e : (countS p 256 0).2.2 = 0
    · intro b hbb
      refine hb b ?_
      rw [hc e]
      exact List.mem_append_right _ hbb
    · intro b hbb
      rw [countS, if_pos rfl] at hbb e
      unfold boundedS at hbb e
      by_cases h1 : (numberS p).2 = 0
      · rw [if_pos h1] at hbb; exact hb b hbb
      · rw [if_neg h1] at hbb e
        by_cases h2 : 256 < (numberS p).1
        · rw [if_pos h2] at hbb; exact hb b hbb
        · rw [if_neg h2] at e; exact absurd rfl e
  generalize countS p 256 0 = c at h hc hcb
  obtain ⟨n, rest, e⟩ := c
  simp only at h hc hcb
  split at h
  · rename_i hh
    obtain ⟨h1, h2, h3⟩ := hh
    have hx : (strsK rest e n).1 = xs := by simpa using h
    have he : e = 0 := by
      by_cases h0 : e = 0
      · exact h0
      · exfalso
        have : ∀ k, (strsK rest e k).2.2 = e := by
          intro k
          induction k with
          | zero => rfl
          | succ k ih =>
            rw [strsK]
            simp only
            rw [pieceS, if_pos (by rw [ih]; exact h0), ih]
        rw [this n] at h2
        exact h0 h2
    subst he
    have h4 := strsK_canon hcb n h2
    rw [h3, List.append_nil, hx] at h4
    have h5 := hc rfl
    have h6 : n = xs.length := by rw [← hx, strsK_length]
    rw [h6] at h5
    refine ⟨by rw [h5, h4], by rw [← hx]; exact h1⟩
  · simp at h
theorem readS_back {xs : List ByteArray} (h : ofS 256 [] xs = (0, xs)) : readS (enc xs.length ++ encL xs) = some xs := by
  have h1 := ofS_valid xs [] (by rw [List.nil_append]; exact h)
  have h2 : xs.length ≤ 256 := by
    rcases ofS_len xs [] (by rw [List.nil_append]; exact h) with h2 | h2
    · omega
    · simpa using h2
  have h3 := strsK_back xs [] h1 xs.length (Nat.le_refl _)
  rw [List.append_nil, List.take_length, List.drop_length, encL, List.nil_append] at h3
  unfold readS
  rw [countS_back xs.length (encL xs) h2]
  simp only
  rw [h3]
  simp [h]
end Go.Proofs.YtneappinkfhjmaaDoor
