/-
  Plain words: what a reading method takes is what writing the value gives; where it fails it takes nothing.
-/
import Derived.Test.YtknphfednknajabRSet
import Derived.Test.YtknphfednknajabRInt
namespace Go.Proofs.Ytknphfednknajab
open Go.RowKit

theorem numLoop_canon : ∀ (t : List Nat) (v i x n : Nat), (∀ b ∈ t, b < 256) → v ≠ 0 → numLoop v i t = (x, n) → n ≠ 0 → i < n ∧ encHi v ++ t.take (n - i) = enc x
  | [], v, i, x, n, _, _, h, hn => by
    rw [numLoop] at h
    cases h
    exact absurd rfl hn
  | b :: t, v, i, x, n, hb, hv, h, hn => by
    rw [numLoop] at h
    have hb0 := hb b List.mem_cons_self
    by_cases h1 : v / 144115188075855872 ≠ 0
    · rw [if_pos h1] at h
      cases h
      exact absurd rfl hn
    · rw [if_neg h1] at h
      by_cases h2 : b < 128
      · rw [if_pos h2] at h
        cases h
        refine ⟨by omega, ?_⟩
        rw [show i + 1 - i = 1 by omega, enc, show (v * 128 + b % 128) / 128 = v by omega, show (v * 128 + b % 128) % 128 = b by omega]
        rfl
      · rw [if_neg h2] at h
        have ⟨h3, h4⟩ := numLoop_canon t _ _ x n (fun y hy => hb y (List.mem_cons_of_mem _ hy)) (by omega) h hn
        refine ⟨by omega, ?_⟩
        rw [← h4, encHi_pos (v := v * 128 + b % 128) (by omega), show (v * 128 + b % 128) / 128 = v by omega, show (v * 128 + b % 128) % 128 + 128 = b by omega,
          show n - i = (n - (i + 1)) + 1 by omega, List.take_succ_cons, List.append_assoc]
        rfl

theorem number_canon (p : List Nat) (hb : ∀ b ∈ p, b < 256) (hn : (numberS p).2 ≠ 0) : p = enc (numberS p).1 ++ p.drop (numberS p).2 := by
  have key : p.take (numberS p).2 = enc (numberS p).1 := by
    revert hn
    unfold numberS
    split
    · intro h; exact absurd rfl h
    · rename_i hh
      intro hn
      cases p with
      | nil => exact absurd rfl hn
      | cons b t =>
        have hb0 := hb b List.mem_cons_self
        rw [numLoop] at hn ⊢
        rw [if_neg (by simp)] at hn ⊢
        by_cases h2 : b < 128
        · rw [if_pos h2]
          simp only [Nat.zero_mul, Nat.zero_add]
          rw [enc, Nat.div_eq_of_lt (by omega), encHi_zero, show b % 128 % 128 = b by omega]
          rfl
        · rw [if_neg h2] at hn ⊢
          have hne : b ≠ 128 := by
            intro e
            subst e
            cases t with
            | nil => rw [numLoop] at hn; exact hn rfl
            | cons c u => exact hh ⟨by simp, rfl⟩
          have ⟨h3, h4⟩ := numLoop_canon t (0 * 128 + b % 128) (0 + 1) _ _ (fun y hy => hb y (List.mem_cons_of_mem _ hy)) (by omega) rfl hn
          rw [← h4, encHi_pos (by omega), show (0 * 128 + b % 128) / 128 = 0 by omega, encHi_zero, show (0 * 128 + b % 128) % 128 + 128 = b by omega]
          obtain ⟨m, hm⟩ : ∃ m, (numLoop (0 * 128 + b % 128) (0 + 1) t).2 = m + 1 := ⟨_, (Nat.sub_add_cancel (by omega : 1 ≤ _)).symm⟩
          rw [hm, List.take_succ_cons]
          simp
  conv => lhs; rw [← List.take_append_drop (numberS p).2 p, key]

theorem uint_canon (xs : List Nat) (most : Nat) (err : Int) (hb : ∀ b ∈ xs, b < 256) :
    ((uintS xs most err).2.2 = 0 → xs = enc (uintS xs most err).1 ++ (uintS xs most err).2.1) ∧ ((uintS xs most err).2.2 ≠ 0 → (uintS xs most err).2.1 = xs) := by
  unfold uintS boundedS
  repeat' split
  all_goals first
    | exact ⟨fun h => absurd h (by assumption), fun _ => rfl⟩
    | exact ⟨fun h => by simp at h, fun _ => rfl⟩
    | exact ⟨fun _ => number_canon xs hb (by assumption), fun h => absurd rfl h⟩
    | exact ⟨fun h => absurd h (by assumption), fun _ => rfl⟩

theorem zz_unzz (u : Nat) : zz (unzz u) = u := by
  unfold zz unzz
  by_cases h : u % 2 = 0
  · rw [if_pos h, if_neg (by omega)]; omega
  · rw [if_neg h, if_pos (by omega)]; omega

theorem int_canon (xs : List Nat) (low high err : Int) (hb : ∀ b ∈ xs, b < 256) :
    ((intS xs low high err).2.2 = 0 → xs = enc (zz (intS xs low high err).1) ++ (intS xs low high err).2.1) ∧ ((intS xs low high err).2.2 ≠ 0 → (intS xs low high err).2.1 = xs) := by
  unfold intS
  repeat' split
  all_goals first
    | exact ⟨fun h => absurd h (by assumption), fun _ => rfl⟩
    | exact ⟨fun h => by simp at h, fun _ => rfl⟩
    | exact ⟨fun _ => by simp only [zz_unzz]; exact number_canon xs hb (by assumption), fun h => absurd rfl h⟩
    | exact ⟨fun h => absurd h (by assumption), fun _ => rfl⟩

theorem piece_canon (xs : List Nat) (most err : Int) (hb : ∀ b ∈ xs, b < 256) :
    ((pieceS xs most err).2.2 = 0 → xs = (enc (pieceS xs most err).1.length ++ (pieceS xs most err).1) ++ (pieceS xs most err).2.1) ∧ ((pieceS xs most err).2.2 ≠ 0 → (pieceS xs most err).2.1 = xs) := by
  refine ⟨?_, fun h => (pieceS_err xs most err h).2⟩
  unfold pieceS
  by_cases h1 : err ≠ 0
  · rw [if_pos h1]; exact fun h => absurd h h1
  · rw [if_neg h1]
    by_cases h2 : most < 0
    · rw [if_pos h2]; intro h; simp at h
    · rw [if_neg h2]
      by_cases h3 : (numberS xs).2 = 0
      · rw [if_pos h3]; intro h; simp at h
      · rw [if_neg h3]
        by_cases h4 : most < ((numberS xs).1 : Int)
        · rw [if_pos h4]; intro h; simp at h
        · rw [if_neg h4]
          by_cases h5 : xs.length - (numberS xs).2 < (numberS xs).1
          · rw [if_pos h5]; intro h; simp at h
          · rw [if_neg h5]
            intro _
            have hc := number_canon xs hb h3
            have hl : ((xs.drop (numberS xs).2).take (numberS xs).1).length = (numberS xs).1 := by simp; omega
            rw [hl, List.append_assoc, ← List.drop_drop, List.take_append_drop]
            exact hc

theorem flag_canon (xs : List Nat) (err : Int) :
    ((flagS xs err).2.2 = 0 → xs = encFlag (flagS xs err).1 ++ (flagS xs err).2.1) ∧ ((flagS xs err).2.2 ≠ 0 → (flagS xs err).2.1 = xs) := by
  unfold flagS
  split
  · exact ⟨fun h => absurd h (by assumption), fun _ => rfl⟩
  · cases xs with
    | nil => exact ⟨fun h => by simp at h, fun _ => rfl⟩
    | cons b t =>
      simp only
      by_cases h1 : 1 < b
      · rw [if_pos h1]; exact ⟨fun h => by simp at h, fun _ => rfl⟩
      · rw [if_neg h1]
        refine ⟨fun _ => ?_, fun h => absurd rfl h⟩
        by_cases h2 : b = 1
        · subst h2; rfl
        · have : b = 0 := by omega
          subst this; rfl

theorem set_canon (xs : List Nat) (most err : Int) (hb : ∀ b ∈ xs, b < 256) :
    ((setS xs most err).2.2 = 0 → xs = (enc (bytesOf (setS xs most err).1).length ++ bytesOf (setS xs most err).1) ++ (setS xs most err).2.1) ∧ ((setS xs most err).2.2 ≠ 0 → (setS xs most err).2.1 = xs) := by
  unfold setS
  by_cases h1 : err ≠ 0
  · rw [if_pos h1]; exact ⟨fun h => absurd h h1, fun _ => rfl⟩
  · rw [if_neg h1]
    by_cases h2 : (pieceS xs 512 0).2.2 ≠ 0
    · rw [if_pos h2]; exact ⟨fun h => absurd h h2, fun _ => rfl⟩
    · rw [if_neg h2]
      by_cases h3 : BadSet (pieceS xs 512 0).1
      · rw [if_pos h3]; exact ⟨fun h => by simp at h, fun _ => rfl⟩
      · rw [if_neg h3]
        by_cases h4 : numLE (pieceS xs 512 0).1 ≠ 0 ∧ most < (Nat.log2 (numLE (pieceS xs 512 0).1) : Int)
        · rw [if_pos h4]; exact ⟨fun h => by simp at h, fun _ => rfl⟩
        · rw [if_neg h4]
          refine ⟨fun _ => ?_, fun h => absurd rfl h⟩
          have hp := (piece_canon xs 512 0 hb).1 (Decidable.not_not.1 h2)
          have hby := (pieceS_byte 512 0 hb).1
          simp only
          rw [bytesOf_numLE _ hby ?_]
          · exact hp
          · by_cases h0 : (pieceS xs 512 0).1.length = 0
            · exact Or.inl h0
            · exact Or.inr fun e => h3 (Or.inr ⟨by omega, e⟩)

end Go.Proofs.Ytknphfednknajab
