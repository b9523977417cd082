import Derived.Lib.BitFns
import Derived.Lib.ItoaNum
import Derived.Laws.BitsAllLaws
import Derived.Lib.TrailingZeros
import Derived.Test.YtjglnpijngdpkaaDoorCore
import Derived.Test.YtjglnpijngdpkaaDoorRows
import Derived.Outline
import Derived.WalkLawsBesides
import Derived.WalkSpells
import Derived.BigQuiet
import Derived.IntWalk
import Derived.Deep.RegionHeld3
import Derived.Deep.RegionLaw
import Derived.BigRegion
import Derived.OwnWalk
import Derived.StillTailTactics
import Derived.Laws.CopyOwn
import Derived.Deep.AppendLies
import Derived.Maps.AppendAt
/-
  Plain words on sets as numbers (bit i is set exactly if i is a member), their words and bytes. No program is named here.
-/
namespace Go.Proofs.YtjglnpijngdpkaaDoor

/-- The first n words of a number. -/
def wl (M n : Nat) : List Nat := (List.range n).map fun k => M / 2 ^ (64 * k) % 2 ^ 64
/-- The first n bytes of a number. -/
def bl8 (M n : Nat) : List Nat := (List.range n).map fun k => M / 2 ^ (8 * k) % 256
def addM (M : Nat) (i : Int) : Nat := if 0 ≤ i ∧ i ≤ 4095 then M ||| 2 ^ i.toNat else M
/-- The set of a list's possible members. -/
def maskOf (l : List Int) : Nat := l.foldl addM 0
/-- The greatest possible member of a list, or -1. -/
def gOf (l : List Int) : Int := l.foldl (fun m i => if 0 ≤ i ∧ i ≤ 4095 then max m i else m) (-1)

theorem wl_length (M n : Nat) : (wl M n).length = n := by simp [wl]
theorem wl_getD (M n k : Nat) (h : k < n) : (wl M n).getD k 0 = M / 2 ^ (64 * k) % 2 ^ 64 := by simp [wl, List.getD, h]
theorem wl_zero (n : Nat) : wl 0 n = List.replicate n 0 := by
  refine List.ext_getElem (by simp [wl]) fun i h1 h2 => ?_
  simp [wl]
theorem bl8_length (M n : Nat) : (bl8 M n).length = n := by simp [bl8]
theorem wl_take (M n t : Nat) (h : t ≤ n) : (wl M n).take t = wl M t := by
  refine List.ext_getElem (by simp [wl, h]) fun i h1 h2 => ?_
  simp [wl]
theorem wl_drop1 (M n : Nat) : (wl M n).drop 1 = wl (M / 2 ^ 64) (n - 1) := by
  refine List.ext_getElem (by simp [wl]) fun i h1 h2 => ?_
  simp only [wl, List.getElem_drop, List.getElem_map, List.getElem_range, Nat.div_div_eq_div_mul, ← Nat.pow_add]
  rw [show 64 * (1 + i) = 64 + 64 * i by omega]

theorem word_or (M i k : Nat) : (M ||| 2 ^ i) / 2 ^ (64 * k) % 2 ^ 64 = if k = i / 64 then (M / 2 ^ (64 * k) % 2 ^ 64) ||| 2 ^ (i % 64) else M / 2 ^ (64 * k) % 2 ^ 64 := by
  refine Nat.eq_of_testBit_eq fun j => ?_
  rw [Nat.testBit_mod_two_pow, Nat.testBit_div_two_pow, Nat.testBit_or, Nat.testBit_two_pow]
  split
  · rename_i hk
    rw [Nat.testBit_or, Nat.testBit_mod_two_pow, Nat.testBit_div_two_pow, Nat.testBit_two_pow]
    by_cases hj : j < 64
    · have : (i = j + 64 * k) ↔ (i % 64 = j) := by omega
      simp [hj, this]
    · have : ¬ (i % 64 = j) := by omega
      simp [hj, this]
  · rename_i hk
    rw [Nat.testBit_mod_two_pow, Nat.testBit_div_two_pow]
    by_cases hj : j < 64
    · have : ¬ (i = j + 64 * k) := by omega
      simp [this]
    · simp [hj]

theorem wl_or (M n i : Nat) (_h : i / 64 < n) : (wl M n).set (i / 64) ((wl M n).getD (i / 64) 0 ||| 2 ^ (i % 64)) = wl (M ||| 2 ^ i) n := by
  refine List.ext_getElem (by simp [wl]) fun k h1 h2 => ?_
  have hk : k < n := by simpa [wl] using h2
  rw [List.getElem_set]
  have e : (wl (M ||| 2 ^ i) n)[k] = (M ||| 2 ^ i) / 2 ^ (64 * k) % 2 ^ 64 := by simp [wl]
  rw [e, word_or]
  by_cases hq : i / 64 = k
  · rw [if_pos hq, if_pos hq.symm, wl_getD _ _ _ (by omega), hq]
  · rw [if_neg hq, if_neg (fun h => hq h.symm)]
    simp [wl]

theorem maskOf_take (l : List Int) (k : Nat) (h : k < l.length) : maskOf (l.take (k + 1)) = addM (maskOf (l.take k)) (l.getD k 0) := by
  rw [List.take_succ_eq_append_getElem h, maskOf, List.foldl_append]
  simp [maskOf, List.getD, h]
theorem gOf_take (l : List Int) (k : Nat) (h : k < l.length) : gOf (l.take (k + 1)) = if 0 ≤ l.getD k 0 ∧ l.getD k 0 ≤ 4095 then max (gOf (l.take k)) (l.getD k 0) else gOf (l.take k) := by
  rw [List.take_succ_eq_append_getElem h, gOf, List.foldl_append]
  simp [gOf, List.getD, h]

theorem foldl_gOf (l : List Int) : ∀ m : Int, -1 ≤ m → m ≤ 4095 →
    -1 ≤ l.foldl (fun m i => if 0 ≤ i ∧ i ≤ 4095 then max m i else m) m ∧ l.foldl (fun m i => if 0 ≤ i ∧ i ≤ 4095 then max m i else m) m ≤ 4095 ∧ m ≤ l.foldl (fun m i => if 0 ≤ i ∧ i ≤ 4095 then max m i else m) m ∧
    ∀ i ∈ l, 0 ≤ i ∧ i ≤ 4095 → i ≤ l.foldl (fun m i => if 0 ≤ i ∧ i ≤ 4095 then max m i else m) m := by
  induction l with
  | nil => intro m h1 h2; simp; omega
  | cons x t ih =>
    intro m h1 h2
    simp only [List.foldl_cons]
    by_cases hx : 0 ≤ x ∧ x ≤ 4095
    · rw [if_pos hx]
      have ⟨a, b, c, d⟩ := ih (max m x) (by omega) (by omega)
      refine ⟨a, b, by omega, fun i hi hp => ?_⟩
      rcases List.mem_cons.1 hi with rfl | hi
      · omega
      · exact d i hi hp
    · rw [if_neg hx]
      have ⟨a, b, c, d⟩ := ih m h1 h2
      refine ⟨a, b, c, fun i hi hp => ?_⟩
      rcases List.mem_cons.1 hi with rfl | hi
      · exact absurd hp hx
      · exact d i hi hp

theorem gOf_bounds (l : List Int) : -1 ≤ gOf l ∧ gOf l ≤ 4095 := by
  have ⟨a, b, _, _⟩ := foldl_gOf l (-1) (by omega) (by omega)
  exact ⟨a, b⟩
theorem gOf_ge (l : List Int) (i : Int) (hi : i ∈ l) (h0 : 0 ≤ i) (h1 : i ≤ 4095) : i ≤ gOf l := by
  have ⟨_, _, _, d⟩ := foldl_gOf l (-1) (by omega) (by omega)
  exact d i hi ⟨h0, h1⟩

theorem mask_lt_fold (n : Nat) (l : List Int) : ∀ M : Nat, M < 2 ^ (64 * n) → (∀ i ∈ l, 0 ≤ i → i ≤ 4095 → i.toNat / 64 < n) → l.foldl addM M < 2 ^ (64 * n) := by
  induction l with
  | nil => intro M h _; simpa using h
  | cons x t ih =>
    intro M h hl
    rw [List.foldl_cons]
    refine ih _ ?_ fun i hi => hl i (List.mem_cons_of_mem _ hi)
    unfold addM
    split
    · rename_i hx
      have := hl x List.mem_cons_self hx.1 hx.2
      exact Nat.or_lt_two_pow h (Nat.pow_lt_pow_right (by omega) (by omega))
    · exact h

/-- A list's set has room in as many words as its greatest member asks for. -/
theorem mask_lt (l : List Int) : maskOf l < 2 ^ (64 * ((gOf l + 64) / 64).toNat) := by
  have hb := gOf_bounds l
  refine mask_lt_fold _ l 0 (Nat.pow_pos (by omega)) fun i hi h0 h1 => ?_
  have := gOf_ge l i hi h0 h1
  omega

/-- The words hs are those of M, the last one not 0. -/
structure Canon (hs : List Nat) (M : Nat) : Prop where
  eq : hs = wl M hs.length
  lt : M < 2 ^ (64 * hs.length)
  last : hs.length = 0 ∨ M / 2 ^ (64 * (hs.length - 1)) ≠ 0

theorem zero_above (M m t : Nat) (hM : M < 2 ^ (64 * m)) (hz : ∀ i, t ≤ i → i < m → M / 2 ^ (64 * i) % 2 ^ 64 = 0) (ht : t ≤ m) : M < 2 ^ (64 * t) := by
  obtain ⟨d, rfl⟩ : ∃ d, m = t + d := ⟨m - t, by omega⟩
  clear ht
  induction d with
  | zero => simpa using hM
  | succ d ih =>
    refine ih ?_ fun i h1 h2 => hz i h1 (by omega)
    have h0 := hz (t + d) (by omega) (by omega)
    have e : 2 ^ (64 * (t + (d + 1))) = 2 ^ (64 * (t + d)) * 2 ^ 64 := by rw [← Nat.pow_add]; congr 1
    rw [e] at hM
    have hp : 0 < 2 ^ (64 * (t + d)) := Nat.pow_pos (by omega)
    have h2 : M / 2 ^ (64 * (t + d)) < 2 ^ 64 := Nat.div_lt_of_lt_mul hM
    rw [Nat.mod_eq_of_lt h2] at h0
    have := Nat.div_eq_zero_iff.1 h0
    omega

/-- The set is empty exactly if its number is 0. -/
theorem Canon.nil {hs : List Nat} {M : Nat} (h : Canon hs M) : hs.length = 0 ↔ M = 0 := by
  constructor
  · intro e; have := h.lt; rw [e] at this; simpa using this
  · rintro rfl
    rcases h.last with e | e
    · exact e
    · simp at e

/-- A set's word number k, of its low word and the others. -/
theorem wd_word (M : Nat) (hs : List Nat) (h : Canon hs (M / 2 ^ 64)) (k : Nat) : (if k = 0 then M % 2 ^ 64 else hs.getD (k - 1) 0) = M / 2 ^ (64 * k) % 2 ^ 64 := by
  by_cases h0 : k = 0
  · subst h0; simp
  · rw [if_neg h0]
    have e : M / 2 ^ (64 * k) = M / 2 ^ 64 / 2 ^ (64 * (k - 1)) := by
      rw [Nat.div_div_eq_div_mul, ← Nat.pow_add]; congr 2; omega
    rw [e]
    by_cases hk : k - 1 < hs.length
    · rw [h.eq, wl_getD _ _ _ hk]
    · rw [show hs.getD (k - 1) 0 = 0 by simp [List.getD, List.getElem?_eq_none (show hs.length ≤ k - 1 by omega)]]
      have : M / 2 ^ 64 < 2 ^ (64 * (k - 1)) := Nat.lt_of_lt_of_le h.lt (Nat.pow_le_pow_right (by omega) (by omega))
      rw [Nat.div_eq_of_lt this]

/-- The top word, and the greatest member. -/
theorem top_eq (M : Nat) (hs : List Nat) (h : Canon hs (M / 2 ^ 64)) (h0 : M ≠ 0) (y : Nat) (hy : y = if hs.length = 0 then M % 2 ^ 64 else hs.getD (hs.length - 1) 0) :
    1 ≤ Lib.bitLen y ∧ Lib.bitLen y ≤ 64 ∧ y < 2 ^ 64 ∧ 64 * hs.length + Lib.bitLen y - 1 = Nat.log2 M := by
  rw [wd_word M hs h hs.length] at hy
  have hlt : M < 2 ^ (64 * hs.length) * 2 ^ 64 := by
    have := h.lt
    rw [Nat.mul_comm]
    exact (Nat.div_lt_iff_lt_mul (Nat.pow_pos (by omega))).1 this |> fun e => by rw [Nat.mul_comm]; exact e
  have hp : 0 < 2 ^ (64 * hs.length) := Nat.pow_pos (by omega)
  have hy1 : M / 2 ^ (64 * hs.length) < 2 ^ 64 := Nat.div_lt_of_lt_mul hlt
  rw [Nat.mod_eq_of_lt hy1] at hy
  have hy0 : y ≠ 0 := by
    rw [hy]
    rcases h.last with e | e
    · rw [e]; simpa using h0
    · intro e2
      refine e ?_
      by_cases h1 : hs.length = 0
      · have := h.nil.1 h1
        rw [this]; simp
      · rw [Nat.div_div_eq_div_mul, ← Nat.pow_add, show 64 + 64 * (hs.length - 1) = 64 * hs.length by omega]; exact e2
  have ⟨b1, b2, b3⟩ := Lib.bitLenAux_bounds 64 y (by rw [hy]; exact hy1) hy0
  have b4 : Lib.bitLen y ≤ 64 := Lib.bitLen_le y 64 (by omega) (by rw [hy]; exact hy1)
  change 1 ≤ Lib.bitLen y at b1
  change 2 ^ (Lib.bitLen y - 1) ≤ y at b2
  change y < 2 ^ Lib.bitLen y at b3
  refine ⟨b1, b4, by rw [hy]; exact hy1, ?_⟩
  refine ((Nat.log2_eq_iff h0).2 ⟨?_, ?_⟩).symm
  · rw [show 64 * hs.length + Lib.bitLen y - 1 = 64 * hs.length + (Lib.bitLen y - 1) by omega, Nat.pow_add]
    refine Nat.le_trans (Nat.mul_le_mul_left _ b2) ?_
    rw [hy]; exact Nat.mul_div_le _ _
  · rw [show 64 * hs.length + Lib.bitLen y - 1 + 1 = 64 * hs.length + Lib.bitLen y by omega, Nat.pow_add]
    have b3' : M / 2 ^ (64 * hs.length) < 2 ^ Lib.bitLen y := by rw [← hy]; exact b3
    exact Nat.lt_of_lt_of_le (Nat.lt_mul_of_div_lt (Nat.lt_succ_self _) hp) (by rw [Nat.mul_comm]; exact Nat.mul_le_mul_left _ b3')

/-- A byte of a word is a byte of the set. -/
theorem byte_word (M k : Nat) : M / 2 ^ (64 * (k / 8)) % 2 ^ 64 / 2 ^ (8 * (k % 8)) % 256 = M / 2 ^ (8 * k) % 256 := by
  rw [show (256 : Nat) = 2 ^ 8 from rfl]
  refine Nat.eq_of_testBit_eq fun j => ?_
  rw [Nat.testBit_mod_two_pow, Nat.testBit_div_two_pow, Nat.testBit_mod_two_pow, Nat.testBit_div_two_pow, Nat.testBit_mod_two_pow, Nat.testBit_div_two_pow]
  by_cases hj : j < 8
  · have h1 : j + 8 * (k % 8) < 64 := by omega
    have h2 : j + 8 * (k % 8) + 64 * (k / 8) = j + 8 * k := by omega
    simp [hj, h1, h2]
  · simp [hj]

theorem bl8_getD (M n k : Nat) (h : k < n) : (bl8 M n).getD k 0 = M / 2 ^ (8 * k) % 256 := by simp [bl8, List.getD, h]

theorem bl8_set (M n k : Nat) (h : k < n) : (bl8 M k ++ List.replicate (n - k) 0).set k (M / 2 ^ (8 * k) % 256) = bl8 M (k + 1) ++ List.replicate (n - (k + 1)) 0 := by
  refine List.ext_getElem (by simp [bl8]; omega) fun i h1 h2 => ?_
  rw [List.getElem_set]
  by_cases hik : k = i
  · subst hik
    rw [if_pos rfl, List.getElem_append_left (by simp [bl8])]
    simp [bl8]
  · rw [if_neg hik]
    by_cases hlt : i < k
    · rw [List.getElem_append_left (by simpa [bl8] using hlt), List.getElem_append_left (by simp [bl8]; omega)]
      simp [bl8]
    · rw [List.getElem_append_right (by simp [bl8]; omega), List.getElem_append_right (by simp [bl8]; omega)]
      simp

/-- The bytes of a set. -/
def bytesOf (M : Nat) : List Nat := if M = 0 then [] else bl8 M (Nat.log2 M / 8 + 1)

theorem bytesOf_byte (M : Nat) : ∀ b ∈ bytesOf M, b < 256 := by
  unfold bytesOf
  split
  · simp
  · intro b hb
    simp only [bl8, List.mem_map] at hb
    obtain ⟨i, _, rfl⟩ := hb
    omega

/-- No member is above 4095. -/
def Small (M : Nat) : Prop := ∀ e, 4096 ≤ e → M < 2 ^ e

theorem maskOf_small (l : List Int) : Small (maskOf l) := by
  intro e he
  have h1 := mask_lt l
  have hb := gOf_bounds l
  have h2 : 64 * ((gOf l + 64) / 64).toNat ≤ e := by omega
  exact Nat.lt_of_lt_of_le h1 (Nat.pow_le_pow_right (Nat.succ_pos 1) h2)

theorem log2_small {M : Nat} (h : Small M) (h0 : M ≠ 0) : Nat.log2 M < 4096 := by
  obtain ⟨e, he⟩ : ∃ e : Nat, e = 4096 := ⟨_, rfl⟩
  rw [← he]
  exact (Nat.log2_lt h0).2 (h e (by omega))

theorem Canon.small {hs : List Nat} {M : Nat} (h : Canon hs (M / 2 ^ 64)) (hM : Small M) : hs.length ≤ 63 := by
  rcases h.last with e | e
  · rw [e]; exact Nat.zero_le _
  · by_cases hlt : hs.length ≤ 63
    · exact hlt
    · exfalso
      refine e ?_
      rw [Nat.div_div_eq_div_mul, ← Nat.pow_add]
      have h4 : 4096 ≤ 64 + 64 * (hs.length - 1) := by omega
      exact Nat.div_eq_of_lt (hM _ h4)

end Go.Proofs.YtjglnpijngdpkaaDoor
/-
  Plain words on union, intersection and difference of sets that are numbers, word by word. No program is named here.
-/
namespace Go.Proofs.YtjglnpijngdpkaaDoor

/-- What a has and b has not. -/
def anN (a b : Nat) : Nat := a ^^^ (a &&& b)
theorem anN_bit (a b i : Nat) : (anN a b).testBit i = (a.testBit i && !b.testBit i) := by
  unfold anN
  rw [Nat.testBit_xor, Nat.testBit_and]
  cases a.testBit i <;> cases b.testBit i <;> rfl
theorem anN_zero (a : Nat) : anN a 0 = a := by simp [anN]
theorem anN_le (a b : Nat) : anN a b ≤ a := by
  refine Nat.le_of_testBit ?_
  intro i h
  rw [anN_bit] at h
  simp at h
  exact h.1
theorem u64_anN (a b : Nat) (ha : a < 18446744073709551616) (hb : b < 18446744073709551616) : bits .andNot .u64 (a : Int) (b : Int) = ((anN a b : Nat) : Int) := by
  rw [u64_andNot_nat a b ha hb]
  congr 1
  refine Nat.eq_of_testBit_eq fun i => ?_
  rw [anN_bit, Nat.testBit_and, show (18446744073709551615 - b : Nat) = 2 ^ 64 - (b + 1) by omega, Nat.testBit_two_pow_sub_succ (by omega)]
  by_cases hi : i < 64
  · simp [hi]
  · have : a.testBit i = false := Nat.testBit_lt_two_pow (Nat.lt_of_lt_of_le ha (by rw [show (18446744073709551616 : Nat) = 2 ^ 64 from rfl]; exact Nat.pow_le_pow_right (by omega) (by omega)))
    simp [this]

def wordN (M k : Nat) : Nat := M / 2 ^ (64 * k) % 2 ^ 64
theorem wordN_lt (M k : Nat) : wordN M k < 18446744073709551616 := Nat.mod_lt _ (by decide)
theorem wordN_bit (M k i : Nat) : (wordN M k).testBit i = (decide (i < 64) && M.testBit (i + 64 * k)) := by
  unfold wordN
  rw [Nat.testBit_mod_two_pow, Nat.testBit_div_two_pow]
theorem wordN_an (M K k : Nat) : wordN (anN M K) k = anN (wordN M k) (wordN K k) := by
  refine Nat.eq_of_testBit_eq fun i => ?_
  simp only [wordN_bit, anN_bit]
  cases decide (i < 64) <;> simp
theorem wordN_and (M K k : Nat) : wordN (M &&& K) k = wordN M k &&& wordN K k := by
  refine Nat.eq_of_testBit_eq fun i => ?_
  simp only [wordN_bit, Nat.testBit_and]
  cases decide (i < 64) <;> simp
theorem wordN_or (M K k : Nat) : wordN (M ||| K) k = wordN M k ||| wordN K k := by
  refine Nat.eq_of_testBit_eq fun i => ?_
  simp only [wordN_bit, Nat.testBit_or]
  cases decide (i < 64) <;> simp
theorem mod_an (M K : Nat) : anN M K % 2 ^ 64 = anN (M % 2 ^ 64) (K % 2 ^ 64) := by
  have := wordN_an M K 0
  simpa [wordN] using this
theorem mod_and (M K : Nat) : (M &&& K) % 2 ^ 64 = (M % 2 ^ 64) &&& (K % 2 ^ 64) := by
  have := wordN_and M K 0
  simpa [wordN] using this
theorem mod_or (M K : Nat) : (M ||| K) % 2 ^ 64 = (M % 2 ^ 64) ||| (K % 2 ^ 64) := by
  have := wordN_or M K 0
  simpa [wordN] using this
theorem div_an (M K n : Nat) : anN M K / 2 ^ n = anN (M / 2 ^ n) (K / 2 ^ n) := by
  refine Nat.eq_of_testBit_eq fun i => ?_
  simp only [anN_bit, Nat.testBit_div_two_pow]
theorem div_and (M K n : Nat) : (M &&& K) / 2 ^ n = (M / 2 ^ n) &&& (K / 2 ^ n) := by
  refine Nat.eq_of_testBit_eq fun i => ?_
  simp only [Nat.testBit_and, Nat.testBit_div_two_pow]
theorem div_or (M K n : Nat) : (M ||| K) / 2 ^ n = (M / 2 ^ n) ||| (K / 2 ^ n) := by
  refine Nat.eq_of_testBit_eq fun i => ?_
  simp only [Nat.testBit_or, Nat.testBit_div_two_pow]

/-- Words of which those below k are done. -/
def mixG (g h : Nat → Nat) (n k : Nat) : List Nat := (List.range n).map fun j => if j < k then g j else h j
theorem mixG_length (g h : Nat → Nat) (n k : Nat) : (mixG g h n k).length = n := by simp [mixG]
theorem mixG_getD (g h : Nat → Nat) (n k : Nat) (hk : k < n) : (mixG g h n k).getD k 0 = h k := by
  simp [mixG, List.getD, hk]
theorem mixG_set (g h : Nat → Nat) (n k : Nat) (_hk : k < n) : (mixG g h n k).set k (g k) = mixG g h n (k + 1) := by
  refine List.ext_getElem (by simp [mixG]) fun i h1 h2 => ?_
  rw [List.getElem_set]
  simp only [mixG, List.getElem_map, List.getElem_range]
  by_cases hi : k = i
  · subst hi; simp
  · rw [if_neg hi]
    by_cases h3 : i < k
    · rw [if_pos h3, if_pos (by omega)]
    · rw [if_neg h3, if_neg (by omega)]
theorem mixG_zero (g h : Nat → Nat) (n : Nat) : mixG g h n 0 = (List.range n).map h := by simp [mixG]
theorem mixG_end (g h : Nat → Nat) (n k : Nat) (hk : ∀ j, k ≤ j → j < n → g j = h j) : mixG g h n k = (List.range n).map g := by
  refine List.ext_getElem (by simp [mixG]) fun i h1 h2 => ?_
  simp only [mixG, List.getElem_map, List.getElem_range]
  have hi : i < n := by simpa using h2
  split
  · rfl
  · exact (hk i (by omega) hi).symm
theorem wl_word (M n : Nat) : wl M n = (List.range n).map (wordN M) := rfl

/-- A word behind the last one is 0. -/
theorem canon_word {hs : List Nat} {M : Nat} (h : Canon hs M) (j : Nat) (hj : hs.length ≤ j) : wordN M j = 0 := by
  have : M < 2 ^ (64 * j) := Nat.lt_of_lt_of_le h.lt (Nat.pow_le_pow_right (by omega) (by omega))
  simp [wordN, Nat.div_eq_of_lt this]
theorem canon_getD {hs : List Nat} {M : Nat} (h : Canon hs M) (j : Nat) (hj : j < hs.length) : hs.getD j 0 = wordN M j := by
  rw [h.eq, wl_getD _ _ _ hj]; rfl
theorem canon_or {hs ks : List Nat} {M K : Nat} (h : Canon hs M) (k : Canon ks K) (hl : ks.length ≤ hs.length) : Canon (wl (M ||| K) hs.length) (M ||| K) := by
  refine ⟨by rw [wl_length], ?_, ?_⟩
  · rw [wl_length]
    exact Nat.or_lt_two_pow h.lt (Nat.lt_of_lt_of_le k.lt (Nat.pow_le_pow_right (by omega) (by omega)))
  · rw [wl_length]
    rcases h.last with e | e
    · exact Or.inl e
    · refine Or.inr fun e2 => e ?_
      rw [div_or] at e2
      exact Nat.le_antisymm (e2 ▸ Nat.left_le_or) (Nat.zero_le _)
theorem small_or {M K : Nat} (h : Small M) (k : Small K) : Small (M ||| K) := fun e he => Nat.or_lt_two_pow (h e he) (k e he)
theorem small_and {M K : Nat} (h : Small M) : Small (M &&& K) := fun e he => Nat.lt_of_le_of_lt Nat.and_le_left (h e he)
theorem small_an {M K : Nat} (h : Small M) : Small (anN M K) := fun e he => Nat.lt_of_le_of_lt (anN_le _ _) (h e he)

theorem ones_full (n k : Nat) (h : 64 * (k + 1) ≤ n) : wordN (2 ^ n - 1) k = 18446744073709551615 := by
  refine Nat.eq_of_testBit_eq fun i => ?_
  rw [wordN_bit, Nat.testBit_two_pow_sub_one, show (18446744073709551615 : Nat) = 2 ^ 64 - 1 from rfl, Nat.testBit_two_pow_sub_one]
  by_cases hi : i < 64
  · have : i + 64 * k < n := by omega
    simp [hi, this]
  · simp [hi]
theorem ones_part (n k : Nat) (h1 : 64 * k ≤ n) (h2 : n < 64 * (k + 1)) : wordN (2 ^ n - 1) k = 2 ^ (n - 64 * k) - 1 := by
  refine Nat.eq_of_testBit_eq fun i => ?_
  rw [wordN_bit, Nat.testBit_two_pow_sub_one, Nat.testBit_two_pow_sub_one]
  by_cases hi : i < 64
  · have : (i + 64 * k < n) ↔ (i < n - 64 * k) := by omega
    simp [hi, this]
  · have : ¬ i < n - 64 * k := by omega
    simp [hi, this]
def clampN (n : Int) : Nat := if n < 0 then 0 else if n ≤ 4096 then n.toNat else 4096
theorem clampN_le (n : Int) : clampN n ≤ 4096 := by
  unfold clampN
  split
  · omega
  · split <;> omega
theorem ones_small (n : Nat) (h : n ≤ 4096) : Small (2 ^ n - 1) := fun e he => Nat.lt_of_lt_of_le (Nat.sub_lt (Nat.pow_pos (by omega)) (by omega)) (Nat.pow_le_pow_right (by omega) (by omega))
end Go.Proofs.YtjglnpijngdpkaaDoor
/-
  Plain words on the members of a set that is a number, and on the lowest bit of a word. No program is named here.
-/
namespace Go.Proofs.YtjglnpijngdpkaaDoor

/-- The members below n, ascending. -/
def memM (M n : Nat) : List Int := ((List.range n).filter M.testBit).map fun i : Nat => (i : Int)
theorem memM_yes {M n : Nat} (h : M.testBit n = true) : memM M (n + 1) = memM M n ++ [(n : Int)] := by
  simp [memM, List.range_succ, h]
theorem memM_no {M n : Nat} (h : M.testBit n = false) : memM M (n + 1) = memM M n := by
  simp [memM, List.range_succ, h]
theorem memM_skip {M a : Nat} : ∀ d, (∀ i, a ≤ i → i < a + d → M.testBit i = false) → memM M (a + d) = memM M a
  | 0, _ => rfl
  | d + 1, h => by
    rw [← Nat.add_assoc, memM_no (h (a + d) (by omega) (by omega)), memM_skip d fun i h1 h2 => h i h1 (by omega)]
theorem memM_pre (M a : Nat) : ∀ d, memM M a <+: memM M (a + d)
  | 0 => List.prefix_refl _
  | d + 1 => by
    have ih := memM_pre M a d
    rw [← Nat.add_assoc]
    cases h : M.testBit (a + d) with
    | true => rw [memM_yes h]; exact ih.trans (List.prefix_append _ _)
    | false => rw [memM_no h]; exact ih
theorem memM_prefix (M : Nat) {a b : Nat} (h : a ≤ b) : memM M a <+: memM M b := by
  obtain ⟨d, rfl⟩ : ∃ d, b = a + d := ⟨b - a, by omega⟩
  exact memM_pre M a d
theorem memM_len (M : Nat) {a b : Nat} (h : a ≤ b) : (memM M a).length ≤ (memM M b).length := (memM_prefix M h).length_le
theorem memM_le (M n : Nat) : (memM M n).length ≤ n := by
  unfold memM
  rw [List.length_map]
  exact Nat.le_trans (List.length_filter_le _ _) (by simp)

/-- A word without its lowest t bits. -/
def cutW (y t : Nat) : Nat := y / 2 ^ t * 2 ^ t
theorem cutW_zero (y : Nat) : cutW y 0 = y := by simp [cutW]
theorem cutW_bit (y t i : Nat) : (cutW y t).testBit i = (decide (t ≤ i) && y.testBit i) := by
  unfold cutW
  rw [Nat.testBit_mul_two_pow, Nat.testBit_div_two_pow]
  by_cases h : t ≤ i
  · simp [h, show i - t + t = i by omega]
  · simp [h]
theorem cutW_le (y t : Nat) : cutW y t ≤ y := Nat.div_mul_le_self _ _

/-- The lowest bit of what is left of a word, and what is left without it. -/
theorem cutW_low {y t : Nat} (hy : y < 2 ^ 64) (h0 : cutW y t ≠ 0) :
    t ≤ Lib.ctz 64 (cutW y t) ∧ Lib.ctz 64 (cutW y t) < 64 ∧ y.testBit (Lib.ctz 64 (cutW y t)) = true ∧ (∀ i, t ≤ i → i < Lib.ctz 64 (cutW y t) → y.testBit i = false) ∧
    cutW y t &&& (cutW y t - 1) = cutW y (Lib.ctz 64 (cutW y t) + 1) := by
  have hb := cutW_bit y t
  have hlt : cutW y t < 2 ^ 64 := Nat.lt_of_le_of_lt (cutW_le y t) hy
  have he : Lib.ctz 64 (cutW y t) = Lib.ctzFrom 64 (cutW y t) := by simp [Lib.ctz, h0]
  obtain ⟨m, hm, hj⟩ := Lib.ctzFrom_spec 64 (cutW y t) (by omega) hlt
  rw [← he] at hm hj
  generalize Lib.ctz 64 (cutW y t) = j at hm hj ⊢
  have hc := cutW_bit y (j + 1)
  generalize cutW y t = W at hm hb hlt h0 ⊢
  clear he h0
  have hW : W = 2 ^ (j + 1) * m + 2 ^ j := by rw [hm, Nat.pow_succ, Nat.mul_add, Nat.mul_one, Nat.mul_assoc]
  have hp : 0 < 2 ^ j := Nat.pow_pos (by omega)
  have hpj : 2 ^ j < 2 ^ (j + 1) := Nat.pow_lt_pow_right (by omega) (by omega)
  have hW1 : W - 1 = 2 ^ (j + 1) * m + (2 ^ j - 1) := by omega
  have b1 : ∀ i, W.testBit i = if i < j + 1 then decide (j = i) else m.testBit (i - (j + 1)) := fun i => by
    rw [hW, Nat.testBit_two_pow_mul_add _ hpj, Nat.testBit_two_pow]
  have b2 : ∀ i, (W - 1).testBit i = if i < j + 1 then decide (i < j) else m.testBit (i - (j + 1)) := fun i => by
    rw [hW1, Nat.testBit_two_pow_mul_add _ (by omega), Nat.testBit_two_pow_sub_one]
  have hj1 : (decide (t ≤ j) && y.testBit j) = true := by rw [← hb, b1]; simp
  have htj : t ≤ j := by
    by_cases h : t ≤ j
    · exact h
    · simp [h] at hj1
  refine ⟨htj, hj, by simpa [htj] using hj1, fun i h1 h2 => ?_, ?_⟩
  · have := hb i
    rw [b1, if_pos (by omega)] at this
    simp [h1, show ¬ j = i by omega] at this
    exact this
  · refine Nat.eq_of_testBit_eq fun i => ?_
    rw [Nat.testBit_and, b1, b2, hc]
    by_cases h : i < j + 1
    · rw [if_pos h, if_pos h]
      by_cases e : j = i
      · subst e; simp; intro h9; omega
      · simp [e, show ¬ j + 1 ≤ i by omega]
    · rw [if_neg h, if_neg h]
      have h1 := hb i
      rw [b1, if_neg h] at h1
      simp [h1, show t ≤ i by omega, show j + 1 ≤ i by omega]

/-- The bits of a word of a set are the set's. -/
theorem word_testBit (M k i : Nat) : (M / 2 ^ (64 * k) % 2 ^ 64).testBit i = (decide (i < 64) && M.testBit (64 * k + i)) := by
  rw [Nat.testBit_mod_two_pow, Nat.testBit_div_two_pow, Nat.add_comm]

/-- One member more comes. -/
theorem memM_next {M k t : Nat} (h0 : cutW (M / 2 ^ (64 * k) % 2 ^ 64) t ≠ 0) :
    t ≤ Lib.ctz 64 (cutW (M / 2 ^ (64 * k) % 2 ^ 64) t) ∧ Lib.ctz 64 (cutW (M / 2 ^ (64 * k) % 2 ^ 64) t) < 64 ∧
    memM M (64 * k + Lib.ctz 64 (cutW (M / 2 ^ (64 * k) % 2 ^ 64) t) + 1) = memM M (64 * k + t) ++ [((64 * k + Lib.ctz 64 (cutW (M / 2 ^ (64 * k) % 2 ^ 64) t) : Nat) : Int)] ∧
    cutW (M / 2 ^ (64 * k) % 2 ^ 64) t &&& (cutW (M / 2 ^ (64 * k) % 2 ^ 64) t - 1) = cutW (M / 2 ^ (64 * k) % 2 ^ 64) (Lib.ctz 64 (cutW (M / 2 ^ (64 * k) % 2 ^ 64) t) + 1) := by
  have hy : M / 2 ^ (64 * k) % 2 ^ 64 < 2 ^ 64 := Nat.mod_lt _ (Nat.pow_pos (by omega))
  obtain ⟨h1, h2, h3, h4, h5⟩ := cutW_low hy h0
  have hb := word_testBit M k
  generalize Lib.ctz 64 (cutW (M / 2 ^ (64 * k) % 2 ^ 64) t) = j at h1 h2 h3 h4 h5 ⊢
  refine ⟨h1, h2, ?_, h5⟩
  rw [hb] at h3
  simp [h2] at h3
  rw [memM_yes h3]
  congr 1
  obtain ⟨d, rfl⟩ : ∃ d, j = t + d := ⟨j - t, by omega⟩
  rw [← Nat.add_assoc]
  refine memM_skip d fun i g1 g2 => ?_
  obtain ⟨e, rfl⟩ : ∃ e, i = 64 * k + e := ⟨i - 64 * k, by omega⟩
  have := h4 e (by omega) (by omega)
  rw [hb] at this
  simpa [show e < 64 by omega] using this
/-- No member of the word is left. -/
theorem memM_rest {M k t : Nat} (ht : t ≤ 64) (h0 : cutW (M / 2 ^ (64 * k) % 2 ^ 64) t = 0) : memM M (64 * (k + 1)) = memM M (64 * k + t) := by
  have hb := word_testBit M k
  have hc := cutW_bit (M / 2 ^ (64 * k) % 2 ^ 64) t
  rw [h0] at hc
  have := memM_skip (M := M) (a := 64 * k + t) (64 - t) fun i g1 g2 => by
    obtain ⟨e, rfl⟩ : ∃ e, i = 64 * k + e := ⟨i - 64 * k, by omega⟩
    have h1 := hc e
    rw [hb] at h1
    simp [show t ≤ e by omega, show e < 64 by omega] at h1
    exact h1
  rw [show 64 * k + t + (64 - t) = 64 * (k + 1) by omega] at this
  exact this
theorem cutW_dec {y t : Nat} (h0 : cutW y t ≠ 0) (j : Nat) (h : cutW y t &&& (cutW y t - 1) = cutW y j) : cutW y j < cutW y t := by
  rw [← h]
  have : cutW y t &&& (cutW y t - 1) ≤ cutW y t - 1 := Nat.and_le_right
  omega
end Go.Proofs.YtjglnpijngdpkaaDoor
/-
  Plain words on ascending lists and the sets that they stand for: a further number, a list's set, differences, comparison. No program is named here.
-/
namespace Go.Proofs.YtjglnpijngdpkaaDoor

theorem sorted_ext : ∀ l m : List Int, l.Pairwise (· < ·) → m.Pairwise (· < ·) → (∀ x, x ∈ l ↔ x ∈ m) → l = m
  | [], [], _, _, _ => rfl
  | [], y :: m, _, _, h => by have := (h y).2 List.mem_cons_self; cases this
  | x :: l, [], _, _, h => by have := (h x).1 List.mem_cons_self; cases this
  | x :: l, y :: m, hl, hm, h => by
    rw [List.pairwise_cons] at hl hm
    have hxy : x = y := by
      have h1 := (h x).1 List.mem_cons_self
      have h2 := (h y).2 List.mem_cons_self
      rcases List.mem_cons.1 h1 with e | e
      · exact e
      · rcases List.mem_cons.1 h2 with e2 | e2
        · exact e2.symm
        · have := hm.1 x e; have := hl.1 y e2; omega
    subst hxy
    congr 1
    refine sorted_ext l m hl.2 hm.2 fun z => ⟨fun hz => ?_, fun hz => ?_⟩
    · rcases List.mem_cons.1 ((h z).1 (List.mem_cons_of_mem _ hz)) with e | e
      · have := hl.1 z hz; omega
      · exact e
    · rcases List.mem_cons.1 ((h z).2 (List.mem_cons_of_mem _ hz)) with e | e
      · have := hm.1 z hz; omega
      · exact e

theorem memM_sorted (M n : Nat) : (memM M n).Pairwise (· < ·) := by
  unfold memM
  rw [List.pairwise_map]
  refine List.Pairwise.imp ?_ (List.Pairwise.filter _ List.pairwise_lt_range)
  intro a b h
  omega
theorem memM_mem {M n : Nat} {x : Int} : x ∈ memM M n ↔ 0 ≤ x ∧ x < n ∧ M.testBit x.toNat = true := by
  simp only [memM, List.mem_map, List.mem_filter, List.mem_range]
  constructor
  · rintro ⟨i, ⟨h1, h2⟩, rfl⟩
    exact ⟨by omega, by omega, by simpa using h2⟩
  · rintro ⟨h1, h2, h3⟩
    exact ⟨x.toNat, ⟨by omega, h3⟩, by omega⟩
theorem memM_is {M : Nat} {l : List Int} (h : l.Pairwise (· < ·)) (hm : ∀ x, x ∈ l ↔ 0 ≤ x ∧ x < 4096 ∧ M.testBit x.toNat = true) : l = memM M 4096 :=
  sorted_ext _ _ h (memM_sorted _ _) fun x => by rw [hm, memM_mem]; rfl
theorem memM_inj {M K : Nat} (hM : Small M) (hK : Small K) (h : memM M 4096 = memM K 4096) : M = K := by
  refine Nat.eq_of_testBit_eq fun i => ?_
  rcases Nat.lt_or_ge i 4096 with h1 | h1
  · have e : ∀ X, X.testBit i = decide ((i : Int) ∈ memM X 4096) := fun X => by
      by_cases hx : X.testBit i = true
      · rw [hx]; symm; rw [decide_eq_true_iff, memM_mem]; exact ⟨by omega, by omega, by simpa using hx⟩
      · have : ¬ (i : Int) ∈ memM X 4096 := fun hh => hx (by have := (memM_mem.1 hh).2.2; simpa using this)
        simp [this]; simpa using hx
    rw [e M, e K, h]
  · rw [Nat.testBit_lt_two_pow (hM i h1), Nat.testBit_lt_two_pow (hK i h1)]
theorem memM_zero (n : Nat) : memM 0 n = [] := by simp [memM]

/-- One element of the list is taken over, with the further number ahead of it if it is due. -/
def insS (i : Int) (st : List Int × Bool) (x : Int) : List Int × Bool := if i < x ∧ st.2 = false then (st.1 ++ [i] ++ [x], true) else (st.1 ++ [x], st.2)
def insL (i : Int) (l : List Int) : List Int × Bool := l.foldl (insS i) ([], false)
def withL (l : List Int) (i : Int) : List Int := if i < 0 ∨ 4095 < i ∨ i ∈ l then l else if (insL i l).2 then (insL i l).1 else (insL i l).1 ++ [i]

theorem insL_take (i : Int) (l : List Int) (k : Nat) (h : k < l.length) : insL i (l.take (k + 1)) = insS i (insL i (l.take k)) (l.getD k 0) := by
  rw [List.take_succ_eq_append_getElem h, insL, List.foldl_append]
  simp [insL, List.getD, h]
theorem insS_len (i : Int) (st : List Int × Bool) (x : Int) : (insS i st x).1.length ≤ st.1.length + 2 := by
  unfold insS; split <;> simp
theorem insL_len (i : Int) (l : List Int) : (insL i l).1.length + (!(insL i l).2).toNat = l.length + 1 := by
  have key : ∀ (l : List Int) (st : List Int × Bool), (l.foldl (insS i) st).1.length + (!(l.foldl (insS i) st).2).toNat = st.1.length + l.length + (!st.2).toNat := by
    intro l
    induction l with
    | nil => intro st; simp
    | cons x t ih =>
      intro st
      rw [List.foldl_cons, ih]
      unfold insS
      rcases st with ⟨a, b⟩
      cases b
      · by_cases h : i < x <;> simp [h] <;> omega
      · simp; omega
  have := key l ([], false)
  simp only [List.length_nil, Nat.zero_add, Bool.not_false, Bool.toNat_true] at this
  exact this
theorem ins_done (i : Int) : ∀ (l acc : List Int), l.foldl (insS i) (acc, true) = (acc ++ l, true)
  | [], acc => by simp
  | x :: t, acc => by
    rw [List.foldl_cons]
    have : insS i (acc, true) x = (acc ++ [x], true) := by simp [insS]
    rw [this, ins_done i t]
    simp
theorem ins_due (i : Int) : ∀ (l acc : List Int), l.Pairwise (· < ·) → i ∉ l →
    (if (l.foldl (insS i) (acc, false)).2 then (l.foldl (insS i) (acc, false)).1 else (l.foldl (insS i) (acc, false)).1 ++ [i]) = acc ++ l.filter (fun x => decide (x < i)) ++ i :: l.filter (fun x => decide (i < x))
  | [], acc, _, _ => by simp
  | x :: t, acc, hp, hi => by
    rw [List.pairwise_cons] at hp
    rw [List.foldl_cons]
    by_cases h : i < x
    · have e : insS i (acc, false) x = (acc ++ [i] ++ [x], true) := by simp [insS, h]
      have e1 : t.filter (fun x => decide (x < i)) = [] := List.filter_eq_nil_iff.2 fun y hy => by have := hp.1 y hy; simp; omega
      have e2 : t.filter (fun x => decide (i < x)) = t := List.filter_eq_self.2 fun y hy => by have := hp.1 y hy; simp; omega
      rw [e, ins_done]
      simp [h, e1, e2, show ¬ x < i by omega]
    · have hx : x < i := by
        have : i ≠ x := fun e => hi (by simp [e])
        omega
      have e : insS i (acc, false) x = (acc ++ [x], false) := by simp [insS, h]
      rw [e, ins_due i t (acc ++ [x]) hp.2 (fun hh => hi (List.mem_cons_of_mem _ hh))]
      simp [h, hx]

/-- The number behind the numbers below it and ahead of those above it: an ascending list. -/
theorem mid_sorted (i : Int) (l : List Int) (hp : l.Pairwise (· < ·)) : (l.filter (fun x => decide (x < i)) ++ i :: l.filter (fun x => decide (i < x))).Pairwise (· < ·) := by
  rw [List.pairwise_append]
  refine ⟨hp.filter _, ?_, ?_⟩
  · rw [List.pairwise_cons]
    exact ⟨fun y hy => by have := (List.mem_filter.1 hy).2; simpa using this, hp.filter _⟩
  · intro a ha b hb
    have h1 : a < i := by have := (List.mem_filter.1 ha).2; simpa using this
    rcases List.mem_cons.1 hb with rfl | hb
    · exact h1
    · have h2 : i < b := by have := (List.mem_filter.1 hb).2; simpa using this
      omega

theorem or_bit (M i j : Nat) : (M ||| 2 ^ i).testBit j = (M.testBit j || decide (i = j)) := by
  rw [Nat.testBit_or, Nat.testBit_two_pow]

theorem withL_mem (M : Nat) (i : Int) : withL (memM M 4096) i = memM (addM M i) 4096 := by
  unfold withL addM
  by_cases hr : 0 ≤ i ∧ i ≤ 4095
  · rw [if_pos hr]
    by_cases hm : i ∈ memM M 4096
    · rw [if_pos (Or.inr (Or.inr hm))]
      have hb := (memM_mem.1 hm).2.2
      congr 1
      refine Nat.eq_of_testBit_eq fun j => ?_
      rw [or_bit]
      by_cases e : i.toNat = j
      · rw [← e, hb]; simp
      · simp [e]
    · rw [if_neg (fun h => h.elim (fun h => by omega) fun h => h.elim (fun h => by omega) hm)]
      unfold insL
      rw [ins_due i _ [] (memM_sorted M 4096) hm, List.nil_append]
      refine memM_is (mid_sorted i _ (memM_sorted M 4096)) fun x => ?_
      rw [List.mem_append, List.mem_cons, List.mem_filter, List.mem_filter, memM_mem, or_bit]
      simp only [decide_eq_true_eq, Bool.or_eq_true]
      constructor
      · rintro (⟨⟨a, b, c⟩, d⟩ | rfl | ⟨⟨a, b, c⟩, d⟩)
        · exact ⟨a, by omega, Or.inl c⟩
        · exact ⟨hr.1, by omega, Or.inr rfl⟩
        · exact ⟨a, by omega, Or.inl c⟩
      · rintro ⟨a, b, c | c⟩
        · have hne : x ≠ i := fun e => hm (by rw [← e]; exact memM_mem.2 ⟨a, by omega, c⟩)
          rcases Int.lt_or_gt_of_ne hne with h | h
          · exact Or.inl ⟨⟨a, by omega, c⟩, h⟩
          · exact Or.inr (Or.inr ⟨⟨a, by omega, c⟩, h⟩)
        · exact Or.inr (Or.inl (by omega))
  · rw [if_neg hr, if_pos (by omega)]

/-- The list of a list's set. -/
def ofL (l : List Int) : List Int := l.foldl withL []
theorem ofL_mask (l : List Int) : ofL l = memM (maskOf l) 4096 := by
  have key : ∀ (l : List Int) (M : Nat), l.foldl withL (memM M 4096) = memM (l.foldl addM M) 4096 := by
    intro l
    induction l with
    | nil => intro M; simp only [List.foldl_nil]
    | cons x t ih => intro M; simp only [List.foldl_cons]; rw [withL_mem, ih]
  have := key l 0
  rw [memM_zero] at this
  exact this
theorem ofL_take (l : List Int) (k : Nat) (h : k < l.length) : ofL (l.take (k + 1)) = withL (ofL (l.take k)) (l.getD k 0) := by
  rw [List.take_succ_eq_append_getElem h, ofL, List.foldl_append]
  simp [ofL, List.getD, h]
theorem withL_len (l : List Int) (i : Int) : (withL l i).length ≤ l.length + 1 := by
  unfold withL
  have := insL_len i l
  split
  · omega
  · split
    · rename_i h; rw [h] at this; simp at this; omega
    · rename_i h; rw [Bool.not_eq_true] at h; rw [h] at this; rw [List.length_append]; simp at this ⊢; omega
theorem ofL_len (l : List Int) : (ofL l).length ≤ 4096 := by rw [ofL_mask]; exact memM_le _ _

/-- The numbers below n. -/
theorem memM_ones (c : Nat) (hc : c ≤ 4096) : memM (2 ^ c - 1) 4096 = (List.range c).map fun i : Nat => (i : Int) := by
  symm
  refine memM_is ?_ fun x => ?_
  · rw [List.pairwise_map]
    exact List.pairwise_lt_range.imp fun h => by omega
  · rw [Nat.testBit_two_pow_sub_one]
    simp only [List.mem_map, List.mem_range, decide_eq_true_eq]
    constructor
    · rintro ⟨i, h, rfl⟩; exact ⟨by omega, by omega, by omega⟩
    · rintro ⟨a, b, c⟩; exact ⟨x.toNat, c, by omega⟩

/-- Those of one list that are, or are not, in another one. -/
theorem filter_not (M K : Nat) : (memM M 4096).filter (fun x => !decide (x ∈ memM K 4096)) = memM (anN M K) 4096 := by
  refine memM_is ((memM_sorted M 4096).filter _) fun x => ?_
  rw [List.mem_filter, memM_mem, anN_bit]
  simp only [Bool.not_eq_true', decide_eq_false_iff_not, memM_mem, Bool.and_eq_true, Bool.not_eq_true']
  constructor
  · rintro ⟨⟨a, b, c⟩, d⟩
    refine ⟨a, by omega, c, ?_⟩
    cases h : K.testBit x.toNat
    · rfl
    · exact absurd ⟨a, by omega, h⟩ d
  · rintro ⟨a, b, c, d⟩
    exact ⟨⟨a, by omega, c⟩, fun ⟨_, _, h⟩ => by rw [d] at h; cases h⟩
theorem filter_and (M K : Nat) : (memM M 4096).filter (fun x => decide (x ∈ memM K 4096)) = memM (M &&& K) 4096 := by
  refine memM_is ((memM_sorted M 4096).filter _) fun x => ?_
  rw [List.mem_filter, memM_mem, Nat.testBit_and]
  simp only [decide_eq_true_eq, memM_mem, Bool.and_eq_true]
  constructor
  · rintro ⟨⟨a, b, c⟩, d⟩; exact ⟨a, by omega, c, d.2.2⟩
  · rintro ⟨a, b, c, d⟩; exact ⟨⟨a, by omega, c⟩, ⟨a, by omega, d⟩⟩
theorem filter_take (p : Int → Bool) (l : List Int) (k : Nat) (h : k < l.length) : (l.take (k + 1)).filter p = if p (l.getD k 0) then (l.take k).filter p ++ [l.getD k 0] else (l.take k).filter p := by
  rw [List.take_succ_eq_append_getElem h, List.filter_append]
  have : l.getD k 0 = l[k] := by simp [List.getD, h]
  rw [this]
  by_cases hp : p l[k] = true
  · rw [if_pos hp, List.filter_cons_of_pos hp]; rfl
  · rw [if_neg hp, List.filter_cons_of_neg hp]; simp

theorem maskOf_append (l m : List Int) : maskOf (l ++ m) = maskOf l ||| maskOf m := by
  have key : ∀ (m : List Int) (M : Nat), m.foldl addM M = M ||| m.foldl addM 0 := by
    intro m
    induction m with
    | nil => intro M; simp
    | cons x t ih =>
      intro M
      rw [List.foldl_cons, List.foldl_cons, ih (addM M x), ih (addM 0 x), ← Nat.or_assoc]
      congr 1
      unfold addM
      split <;> simp
  unfold maskOf
  rw [List.foldl_append, key]
theorem maskOf_single (i : Int) : maskOf [i] = addM 0 i := rfl

/-- The set of the ascending list of a set is the set. -/
theorem maskOf_memS {M : Nat} (h : Small M) : maskOf (memM M 4096) = M := by
  refine memM_inj (maskOf_small _) h ?_
  rw [← ofL_mask]
  have key : ∀ (l acc : List Int), (acc ++ l).Pairwise (· < ·) → (∀ x ∈ acc ++ l, 0 ≤ x ∧ x ≤ 4095) → l.foldl withL acc = acc ++ l := by
    intro l
    induction l with
    | nil => intro acc _ _; simp
    | cons x t ih =>
      intro acc hp hb
      rw [List.foldl_cons]
      have hx := hb x (by simp)
      have hlt : ∀ y ∈ acc, y < x := fun y hy => (List.pairwise_append.1 hp).2.2 y hy x List.mem_cons_self
      have e : withL acc x = acc ++ [x] := by
        unfold withL
        have hn : x ∉ acc := fun h => by have := hlt x h; omega
        rw [if_neg (fun h => h.elim (fun h => by omega) fun h => h.elim (fun h => by omega) hn)]
        have h2 := ins_due x acc [] (List.pairwise_append.1 hp).1 hn
        unfold insL
        rw [h2, List.filter_eq_self.2 (fun y hy => by simpa using hlt y hy), List.filter_eq_nil_iff.2 (fun y hy => by have := hlt y hy; simp; omega)]
        simp
      rw [e, ih (acc ++ [x]) (by simpa using hp) (by simpa using hb)]
      simp
  have := key (memM M 4096) [] (by simpa using memM_sorted M 4096) (fun x hx => by
    have := memM_mem.1 (by simpa using hx)
    omega)
  simpa [ofL] using this
end Go.Proofs.YtjglnpijngdpkaaDoor
/-
  Plain words on the least and the greatest member, on subsets and on common members. No program is named here.
-/
namespace Go.Proofs.YtjglnpijngdpkaaDoor

/-- The least member. -/
structure LeastS (M d : Nat) : Prop where
  bit : M.testBit d = true
  low : ∀ i, i < d → M.testBit i = false
theorem LeastS.ne {M d : Nat} (h : LeastS M d) : M ≠ 0 := fun e => by have := h.bit; rw [e] at this; simp at this
theorem LeastS.lt {M d : Nat} (h : LeastS M d) (hS : Small M) : d < 4096 := by
  rcases Nat.lt_or_ge d 4096 with h1 | h1
  · exact h1
  · exact absurd h.bit (by rw [Nat.testBit_lt_two_pow (hS d (by omega))]; simp)
theorem memM_none {M n : Nat} (h : ∀ i, i < n → M.testBit i = false) : memM M n = [] := by
  have := memM_skip (M := M) (a := 0) n fun i _ h2 => h i (by omega)
  rw [Nat.zero_add] at this
  rw [this]; rfl
theorem memM_first {M d : Nat} (h : LeastS M d) (hS : Small M) : 0 < (memM M 4096).length ∧ (memM M 4096).getD 0 0 = (d : Int) := by
  have hd := h.lt hS
  have e : memM M (d + 1) = [(d : Int)] := by rw [memM_yes h.bit, memM_none h.low]; rfl
  obtain ⟨t, ht⟩ := memM_prefix M (show d + 1 ≤ 4096 by omega)
  rw [← ht, e]
  exact ⟨by simp, by simp⟩
theorem memM_last {M : Nat} (h0 : M ≠ 0) (hS : Small M) : (memM M 4096).getD ((memM M 4096).length - 1) 0 = (Nat.log2 M : Int) := by
  have hb : M.testBit (Nat.log2 M) = true := Nat.testBit_log2 h0
  have hlt : Nat.log2 M < 4096 := by
    rcases Nat.lt_or_ge (Nat.log2 M) 4096 with h1 | h1
    · exact h1
    · exact absurd hb (by rw [Nat.testBit_lt_two_pow (hS _ (by omega))]; simp)
  have e : memM M 4096 = memM M (Nat.log2 M) ++ [(Nat.log2 M : Int)] := by
    rw [← memM_yes hb]
    have := memM_skip (M := M) (a := Nat.log2 M + 1) (4096 - (Nat.log2 M + 1)) fun i h1 _ => Nat.testBit_lt_two_pow (Nat.lt_of_lt_of_le (Nat.lt_log2_self) (Nat.pow_le_pow_right (by omega) h1))
    rw [show Nat.log2 M + 1 + (4096 - (Nat.log2 M + 1)) = 4096 by omega] at this
    exact this
  rw [e]
  simp [List.getD]
theorem memM_nil {M : Nat} (hS : Small M) : (memM M 4096).length = 0 ↔ M = 0 := by
  rw [List.length_eq_zero_iff]
  constructor
  · intro h
    exact memM_inj hS (by intro i hi; exact Nat.pow_pos (by omega)) (by rw [h, memM_zero])
  · rintro rfl; exact memM_zero _
theorem least_ex {M : Nat} (h0 : M ≠ 0) : ∃ d, LeastS M d := by
  have hex : ∃ d, M.testBit d = true := ⟨_, Nat.testBit_log2 h0⟩
  have key : ∀ n, (∃ d, d ≤ n ∧ M.testBit d = true) → ∃ d, LeastS M d := by
    intro n
    induction n with
    | zero => rintro ⟨d, hd, hb⟩; exact ⟨d, hb, fun i hi => by omega⟩
    | succ n ih =>
      rintro ⟨d, hd, hb⟩
      by_cases h : ∃ d, d ≤ n ∧ M.testBit d = true
      · exact ih h
      · exact ⟨d, hb, fun i hi => by
          cases hv : M.testBit i with
          | false => rfl
          | true => exact absurd ⟨i, by omega, hv⟩ h⟩
  obtain ⟨d, hd⟩ := hex
  exact key d ⟨d, Nat.le_refl _, hd⟩

theorem an_sub {A B : Nat} (h : anN A B = 0) : A ≤ B := by
  refine Nat.le_of_testBit fun i hi => ?_
  have := anN_bit A B i
  rw [h, hi] at this
  simpa using this
theorem canon_le {hs ks : List Nat} {A B : Nat} (h : Canon hs A) (k : Canon ks B) (hle : A ≤ B) : hs.length ≤ ks.length := by
  rcases h.last with e | e
  · omega
  · rcases Nat.lt_or_ge ks.length hs.length with hl | hl
    · exfalso
      apply e
      refine Nat.div_eq_of_lt (Nat.lt_of_le_of_lt hle (Nat.lt_of_lt_of_le k.lt (Nat.pow_le_pow_right (by omega) (by omega))))
    · exact hl
end Go.Proofs.YtjglnpijngdpkaaDoor
/-
  bits: what a slice of words reads as; possible, bit, wordsFor, word, words, Empty, trim.
-/
namespace Go.Proofs.YtjglnpijngdpkaaDoor
open Go.RowKit

/-- The value reads as these words: a nil slice and no word, or a slice whose cells hold them. -/
def Words (w : World) (v : Value) (xs : List Nat) : Prop :=
  (v = .slice none 0 0 ∧ xs = []) ∨
  ∃ g off cap, v = .slice (some ⟨g, off, none⟩) xs.length cap ∧ xs.length ≤ cap ∧ cap ≤ maxLen ∧ g < w.heap.size ∧
    ∀ i, i < xs.length → w.cell? ⟨g, off + i, none⟩ = some (.int .u64 (xs.getD i 0 : Nat))

theorem Words.kept {S : Nat → Prop} {a b : World} {v : Value} {xs : List Nat} (h : Words a v xs) (hk : Kept S a b) (hn : ∀ k, v.ownBlock = some k → ¬ S k) : Words b v xs := by
  rcases h with h | ⟨g, off, cap, rfl, h1, h2, h3, h4⟩
  · exact Or.inl h
  · exact Or.inr ⟨g, off, cap, rfl, h1, h2, Nat.lt_of_lt_of_le h3 hk.size, fun i hi => (hk.cell h3 (hn g rfl)).trans (h4 i hi)⟩

theorem Words.lt {w : World} {v : Value} {xs : List Nat} (h : Words w v xs) : ∀ k, v.ownBlock = some k → k < w.heap.size := by
  intro k hk
  rcases h with ⟨rfl, _⟩ | ⟨g, off, cap, rfl, _, _, h3, _⟩
  · simp [Value.ownBlock] at hk
  · simp [Value.ownBlock] at hk; subst hk; exact h3

theorem Words.form {w : World} {v : Value} {xs : List Nat} (h : Words w v xs) : ∃ a c, v = .slice a xs.length c := by
  rcases h with ⟨rfl, rfl⟩ | ⟨g, off, cap, rfl, _⟩
  · exact ⟨_, _, rfl⟩
  · exact ⟨_, _, rfl⟩

/-- A set's word number k. -/
def wd (lo : Nat) (hs : List Nat) (k : Nat) : Nat := if k = 0 then lo else hs.getD (k - 1) 0

set_option maxRecDepth 100000 in
theorem possible_yes (w : World) (i : Int) (h0 : 0 ≤ i) (h1 : i ≤ 4095) :
    Calls Tryd.prog 61 #[.int .i64 i] w fun e w' => e = .returned (.bool true) ∧ w = w' := by
  go_enter Tryd.func61, Tryd.ntmps61
  go_wp2_with fail
  go_ret
  exact ⟨rfl, rfl⟩

set_option maxRecDepth 100000 in
theorem possible_no (w : World) (i : Int) (h : i < 0 ∨ 4095 < i) :
    Calls Tryd.prog 61 #[.int .i64 i] w fun e w' => e = .returned (.bool false) ∧ w = w' := by
  rcases h with h | h
  · have hd : decide (0 ≤ i) = false := by simpa using h
    go_enter Tryd.func61, Tryd.ntmps61
    go_wp2_with fail
    go_ret
    exact ⟨rfl, rfl⟩
  · have h0 : 0 ≤ i := by omega
    have hd : decide (i ≤ 4095) = false := by simpa using h
    go_enter Tryd.func61, Tryd.ntmps61
    go_wp2_with fail
    go_ret
    exact ⟨rfl, rfl⟩

set_option maxRecDepth 100000 in
theorem bit_any (w : World) (i : Nat) (b : Nat) (hi : i ≤ 4096) (hb : Hid (b = 2 ^ (i % 64))) :
    Calls Tryd.prog 62 #[.int .i64 i] w fun e w' => e = .returned (.int .u64 b) ∧ w = w' := by
  obtain ⟨j, hj⟩ : ∃ j : Nat, j = i % 64 := ⟨_, rfl⟩
  have hji : ((i : Int) % 64) = (j : Int) := by omega
  have hj0 : (0 : Int) ≤ (j : Int) := by omega
  have hj1 : (j : Int) ≤ 63 := by omega
  have hw : IntKind.u64.wrap (2 ^ j) = (b : Int) := by
    rw [hb.out, ← hj]
    have h63 : (2 : Nat) ^ j ≤ 9223372036854775808 := by
      have h2 : (2 : Nat) ^ j ≤ 2 ^ 63 := Nat.pow_le_pow_right (by omega) (by omega)
      simpa using h2
    have e : ((2 : Int) ^ j) = ((2 ^ j : Nat) : Int) := by simp
    rw [e]
    generalize (2 : Nat) ^ j = q at h63
    rw [IntWalk.u64_in _ (by omega)]
  have HJ := Lib.hid hj; clear hj
  go_enter Tryd.func62, Tryd.ntmps62
  go_wp2_with fail
  go_ret
  exact ⟨rfl, rfl⟩

set_option maxRecDepth 100000 in
theorem wordsFor_any (w : World) (i : Int) (h0 : -1 ≤ i) (h1 : i ≤ 4095) :
    Calls Tryd.prog 59 #[.int .i64 i] w fun e w' => e = .returned (.int .i64 ((i + 64) / 64)) ∧ w = w' := by
  go_enter Tryd.func59, Tryd.ntmps59
  go_wp2_with fail
  go_ret
  exact ⟨rfl, rfl⟩

set_option maxRecDepth 100000 in
theorem words_any (w : World) (lo n c : Nat) (a : Option Addr) (hn : n ≤ 1000000) :
    Calls Tryd.prog 66 #[.agg #[.int .u64 lo, .slice a n c]] w fun e w' => e = .returned (.int .i64 (1 + n)) ∧ Kept (fun _ => False) w w' := by
  go_enter Tryd.func66, Tryd.ntmps66
  go_wp2_with fail
  go_ret
  exact ⟨rfl, Kept.alloc _ _ _⟩

set_option maxRecDepth 100000 in
set_option maxHeartbeats 400000 in
theorem word_any (w : World) (lo : Nat) (hv : Value) (hs : List Nat) (k : Nat) (h : Words w hv hs) (hk : k ≤ 1000000) :
    Calls Tryd.prog 67 #[.agg #[.int .u64 lo, hv], .int .i64 k] w fun e w' => e = .returned (.int .u64 (wd lo hs k : Nat)) ∧ Kept (fun _ => False) w w' := by
  by_cases h0 : k = 0
  · subst h0
    rw [show wd lo hs 0 = lo from if_pos rfl]
    obtain ⟨a, c, rfl⟩ := h.form
    clear h
    go_enter Tryd.func67, Tryd.ntmps67
    go_wp2_with fail
    go_ret
    exact ⟨rfl, Kept.alloc _ _ _⟩
  · rw [show wd lo hs k = hs.getD (k - 1) 0 from if_neg h0]
    have hb : ((k : Int) == 0) = false := by simp; omega
    by_cases hlt : k ≤ hs.length
    · rcases h with ⟨_, rfl⟩ | ⟨g, off, cap, rfl, h1, h2, h3, h4⟩
      · simp at hlt; omega
      · have hc := h4 (k - 1) (by omega)
        have hb1 : (0 : Int) ≤ (k : Int) - 1 := by omega
        have hb2 : (k : Int) - 1 < (hs.length : Int) := by omega
        generalize hs.getD (k - 1) 0 = x at hc
        generalize hs.length = n at *
        obtain ⟨j, rfl⟩ : ∃ j, k = j + 1 := ⟨k - 1, by omega⟩
        have hc' : w.cell? ⟨g, off + j, none⟩ = some (.int .u64 x) := hc
        clear hc h4 h0 h2
        have hlt2 : (j : Int) + 1 ≤ (n : Int) := by omega
        have hj : (j : Int) ≤ 1000000 := by omega
        have hbb : ((j : Int) + 1 == 0) = false := by simp; omega
        clear hb hb1 hb2
        go_enter Tryd.func67, Tryd.ntmps67
        go_wp2_with fail
        go_ret
        exact ⟨rfl, Kept.alloc _ _ _⟩
    · obtain ⟨a, c, rfl⟩ := h.form
      rw [show hs.getD (k - 1) 0 = 0 by simp [List.getD, List.getElem?_eq_none (show hs.length ≤ k - 1 by omega)]]
      clear h
      generalize hs.length = n at *
      have hlt2 : (n : Int) < (k : Int) := by omega
      clear h0
      go_enter Tryd.func67, Tryd.ntmps67
      go_wp2_with fail
      go_ret
      exact ⟨rfl, Kept.alloc _ _ _⟩

/-- Where 'trim' stops. -/
structure TrimAt (ws : List Nat) (n : Nat) : Prop where
  le : n ≤ ws.length
  zero : ∀ i, n ≤ i → i < ws.length → ws.getD i 0 = 0
  last : n = 0 ∨ ws.getD (n - 1) 0 ≠ 0

set_option maxRecDepth 100000 in
set_option maxHeartbeats 800000 in
theorem trim_at (w : World) (g off cap : Nat) (ws : List Nat) (hcap : ws.length ≤ cap) (hm : cap ≤ maxLen) (hc : Hid (∀ i, i < ws.length → w.cell? ⟨g, off + i, none⟩ = some (.int .u64 (ws.getD i 0 : Nat)))) :
    Calls Tryd.prog 65 #[.slice (some ⟨g, off, none⟩) ws.length cap] w fun e w' => (∃ n, Hid (TrimAt ws n) ∧ e = .returned (if n = 0 then .slice none 0 0 else .slice (some ⟨g, off, none⟩) n cap)) ∧ w = w' := by
  have hl : ws.length ≤ 9223372036854775807 := by unfold maxLen at hm; omega
  clear hm
  go_enter Tryd.func65, Tryd.ntmps65
  go_wp2_with fail
  go_loop [3] (fun nv => ∃ n : Nat, n ≤ ws.length ∧ nv = .int .i64 n ∧ Hid (∀ i, n ≤ i → i < ws.length → ws.getD i 0 = 0)) (fun nv => (intOf nv).toNat)
  case atStart => exact ⟨ws.length, Nat.le_refl _, rfl, fun i h1 h2 => by omega⟩
  case round =>
    obtain ⟨n, hn, rfl, hz⟩ := hrel
    by_cases h0 : n = 0
    · subst h0
      go_wp2_with fail
      go_ret
      exact ⟨⟨0, ⟨Nat.zero_le _, hz.out, Or.inl rfl⟩, rfl⟩, rfl⟩
    · obtain ⟨j, rfl⟩ : ∃ j, n = j + 1 := ⟨n - 1, by omega⟩
      have cj := hc.out j (by omega)
      obtain ⟨x, hx⟩ : ∃ x, x = ws.getD j 0 := ⟨_, rfl⟩
      rw [← hx] at cj
      have HX := Lib.hid hx; clear hx
      have hj0 : (0 : Int) ≤ (j : Int) := by omega
      have hj1 : (j : Int) < (ws.length : Int) := by omega
      have hjn : ((j : Int) + 1 == 0) = false := by simp; omega
      by_cases hx0 : x = 0
      · subst hx0
        go_wp2_with fail
        go_round
        case rel =>
          refine ⟨j, by omega, rfl, fun i h1 h2 => ?_⟩
          by_cases hij : i = j
          · subst hij; exact HX.out.symm
          · exact hz.out i (by omega) h2
        case measure => simp [intOf]
      · have hxb : ((x : Int) == 0) = false := by simp; omega
        have HX0 := Lib.hid hx0; clear hx0
        go_wp2_with fail
        go_ret
        refine ⟨⟨j + 1, ⟨hn, hz.out, Or.inr ?_⟩, ?_⟩, rfl⟩
        · rw [Nat.add_sub_cancel, ← HX.out]; exact HX0.out
        · rfl

set_option maxRecDepth 100000 in
theorem trim_nil (w : World) :
    Calls Tryd.prog 65 #[.slice none 0 0] w fun e w' => e = .returned (.slice none 0 0) ∧ w = w' := by
  go_enter Tryd.func65, Tryd.ntmps65
  go_wp2_with fail
  go_loop [3] (fun nv => nv = .int .i64 0) (fun _ => 0)
  case atStart => rfl
  case round =>
    subst hrel
    go_wp2_with fail
    go_ret
    exact ⟨rfl, rfl⟩

/-- What 'trim' gives: the words up to the last one that is not 0; nil if none is left. -/
structure TrimRes (w : World) (v : Value) (ws : List Nat) (v' : Value) : Prop where
  ex : ∃ n, TrimAt ws n ∧ Words w v' (ws.take n) ∧ (n = 0 → v' = .slice none 0 0) ∧ (v'.ownBlock = none ∨ v'.ownBlock = v.ownBlock)

theorem TrimRes.form {w : World} {v : Value} {ws : List Nat} {v' : Value} (h : TrimRes w v ws v') : ∃ a n c, v' = .slice a n c := by
  obtain ⟨n, _, hw, _⟩ := h.ex
  obtain ⟨a, c, e⟩ := hw.form
  exact ⟨_, _, _, e⟩

theorem trim_any (w : World) (v : Value) (ws : List Nat) (h : Words w v ws) :
    Calls Tryd.prog 65 #[v] w fun e w' => ∃ v', e = .returned v' ∧ TrimRes w v ws v' ∧ w = w' := by
  rcases h with ⟨rfl, rfl⟩ | ⟨g, off, cap, rfl, h1, h2, h3, h4⟩
  · refine (trim_nil w).mono ?_
    rintro e w' ⟨rfl, rfl⟩
    exact ⟨_, rfl, ⟨0, ⟨Nat.le_refl _, fun i _ h => by simp at h, Or.inl rfl⟩, Or.inl ⟨rfl, rfl⟩, fun _ => rfl, Or.inl rfl⟩, rfl⟩
  · refine (trim_at w g off cap ws h1 h2 h4).mono ?_
    rintro e w' ⟨⟨n, ht, rfl⟩, rfl⟩
    refine ⟨_, rfl, ⟨n, ht.out, ?_, fun h => if_pos h, ?_⟩, rfl⟩
    · by_cases h0 : n = 0
      · rw [if_pos h0]; exact Or.inl ⟨rfl, by simp [h0]⟩
      · rw [if_neg h0]
        have hle := ht.out.le
        refine Or.inr ⟨g, off, cap, by simp [Nat.min_eq_left hle], by simp; omega, h2, h3, fun i hi => ?_⟩
        have hin : i < n := by simp at hi; omega
        rw [h4 i (by omega)]
        simp [hin]
    · by_cases h0 : n = 0
      · rw [if_pos h0]; exact Or.inl rfl
      · rw [if_neg h0]; exact Or.inr rfl

end Go.Proofs.YtjglnpijngdpkaaDoor
/-
  bits.Of: the set of some numbers.
-/
namespace Go.Proofs.YtjglnpijngdpkaaDoor
open Go.RowKit

/-- The value reads as these numbers. -/
def Ints (w : World) (v : Value) (xs : List Int) : Prop :=
  (v = .slice none 0 0 ∧ xs = []) ∨
  ∃ g off cap, v = .slice (some ⟨g, off, none⟩) xs.length cap ∧ xs.length ≤ cap ∧ cap ≤ maxLen ∧ g < w.heap.size ∧
    ∀ i, i < xs.length → w.cell? ⟨g, off + i, none⟩ = some (.int .i64 (xs.getD i 0))

theorem Ints.kept {S : Nat → Prop} {a b : World} {v : Value} {xs : List Int} (h : Ints a v xs) (hk : Kept S a b) (hn : ∀ k, v.ownBlock = some k → ¬ S k) : Ints b v xs := by
  rcases h with h | ⟨g, off, cap, rfl, h1, h2, h3, h4⟩
  · exact Or.inl h
  · exact Or.inr ⟨g, off, cap, rfl, h1, h2, Nat.lt_of_lt_of_le h3 hk.size, fun i hi => (hk.cell h3 (hn g rfl)).trans (h4 i hi)⟩

set_option maxRecDepth 100000 in
set_option maxHeartbeats 800000 in
theorem greatestOf_at (w : World) (g off cap : Nat) (xs : List Int) (hcap : xs.length ≤ cap) (hm : cap ≤ maxLen) (hc : Hid (∀ i, i < xs.length → w.cell? ⟨g, off + i, none⟩ = some (.int .i64 (xs.getD i 0)))) :
    Calls Tryd.prog 60 #[.slice (some ⟨g, off, none⟩) xs.length cap] w fun e w' => e = .returned (.int .i64 (gOf xs)) ∧ w = w' := by
  have hl : xs.length ≤ 9223372036854775807 := by unfold maxLen at hm; omega
  clear hm
  go_enter Tryd.func60, Tryd.ntmps60
  go_wp2_with fail
  go_loop [3, 8] (fun mv iv => ∃ k : Nat, k ≤ xs.length ∧ iv = .int .i64 k ∧ mv = .int .i64 (gOf (xs.take k))) (fun _ iv => xs.length - (intOf iv).toNat)
  case atStart => exact ⟨0, Nat.zero_le _, rfl, rfl⟩
  case round =>
    obtain ⟨k, hk, rfl, rfl⟩ := hrel
    by_cases hlt : k < xs.length
    · have ck := hc.out k hlt
      have hg := gOf_take xs k hlt
      obtain ⟨x, hx⟩ : ∃ x, x = xs.getD k 0 := ⟨_, rfl⟩
      rw [← hx] at ck hg
      clear hx
      have hlt' : (k : Int) < (xs.length : Int) := by omega
      by_cases hp : 0 ≤ x ∧ x ≤ 4095
      · rw [if_pos hp] at hg
        have HG := Lib.hid hg; clear hg
        generalize gOf (xs.take k) = m at HG ⊢
        go_wp2_with fail
        refine (possible_yes _ x hp.1 hp.2).mono ?_
        rintro e w' ⟨rfl, rfl⟩
        go_wp2_with fail
        go_round
        case rel => exact ⟨k + 1, by omega, by go_num, by rw [HG.out]; congr 1; split <;> omega⟩
        case measure => simp [intOf]; omega
      · rw [if_neg hp] at hg
        have HG := Lib.hid hg; clear hg
        generalize gOf (xs.take k) = m at HG ⊢
        go_wp2_with fail
        refine (possible_no _ x (by omega)).mono ?_
        rintro e w' ⟨rfl, rfl⟩
        go_wp2_with fail
        go_round
        case rel => exact ⟨k + 1, by omega, by go_num, by rw [HG.out]⟩
        case measure => simp [intOf]; omega
    · obtain rfl : k = xs.length := by omega
      rw [List.take_length]
      go_wp2_with fail
      go_ret
      exact ⟨rfl, rfl⟩

set_option maxRecDepth 100000 in
theorem greatestOf_nil (w : World) :
    Calls Tryd.prog 60 #[.slice none 0 0] w fun e w' => e = .returned (.int .i64 (gOf [])) ∧ w = w' := by
  go_enter Tryd.func60, Tryd.ntmps60
  go_wp2_with fail
  go_loop [3, 8] (fun mv iv => iv = .int .i64 0 ∧ mv = .int .i64 (-1)) (fun _ _ => 0)
  case atStart => exact ⟨rfl, rfl⟩
  case round =>
    obtain ⟨rfl, rfl⟩ := hrel
    go_wp2_with fail
    go_ret
    exact ⟨rfl, rfl⟩

theorem greatestOf_any (w : World) (v : Value) (xs : List Int) (h : Ints w v xs) :
    Calls Tryd.prog 60 #[v] w fun e w' => e = .returned (.int .i64 (gOf xs)) ∧ w = w' := by
  rcases h with ⟨rfl, rfl⟩ | ⟨g, off, cap, rfl, h1, h2, h3, h4⟩
  · exact greatestOf_nil w
  · exact greatestOf_at w g off cap xs h1 h2 h4

/-- The value is the set of the number M. -/
structure SetV (w : World) (v : Value) (M : Nat) : Prop where
  ex : ∃ hv hs, v = .agg #[.int .u64 (M % 2 ^ 64 : Nat), hv] ∧ Words w hv hs ∧ Canon hs (M / 2 ^ 64) ∧ (hs = [] → hv = .slice none 0 0)

/-- The blocks that a set lies in. -/
def setBlk (v : Value) (k : Nat) : Prop := ∃ lo hv, v = .agg #[lo, hv] ∧ hv.ownBlock = some k

theorem TrimAt.canon {M m n : Nat} (h : TrimAt (wl M m) n) (hM : M < 2 ^ (64 * m)) : Canon ((wl M m).take n) M := by
  have hle := h.le
  rw [wl_length] at hle
  rw [wl_take _ _ _ hle]
  refine ⟨by rw [wl_length], ?_, ?_⟩
  · rw [wl_length]
    exact zero_above M m n hM (fun i h1 h2 => by rw [← wl_getD M m i h2]; exact h.zero i h1 (by rw [wl_length]; exact h2)) hle
  · rw [wl_length]
    rcases h.last with h0 | h0
    · exact Or.inl h0
    · by_cases hn : n = 0
      · exact Or.inl hn
      · rw [wl_getD _ _ _ (by omega)] at h0
        exact Or.inr fun e => h0 (by rw [e])

set_option maxRecDepth 100000 in
theorem pack_nil (w : World) (a : Option Addr) (c : Nat) :
    Calls Tryd.prog 63 #[.slice a 0 c] w fun e w' => e = .returned (.agg #[.int .u64 0, .slice none 0 0]) ∧ Kept (fun _ => False) w w' := by
  go_enter Tryd.func63, Tryd.ntmps63
  go_wp2_with fail
  refine bodyPost_ret (v := .agg #[.int .u64 0, .slice none 0 0]) (by simp [results, Tryd.results63, go_sem]) rfl ⟨rfl, Kept.alloc _ _ _⟩

/-- What 'pack' gives of words whose first one is lo. -/
structure PackRes (w : World) (g : Nat) (ws : List Nat) (hv : Value) : Prop where
  ex : ∃ t, TrimAt (ws.drop 1) t ∧ Words w hv ((ws.drop 1).take t) ∧ (t = 0 → hv = .slice none 0 0) ∧ (hv.ownBlock = none ∨ hv.ownBlock = some g)

set_option maxRecDepth 100000 in
set_option maxHeartbeats 800000 in
/-- 'pack' of words at whose head the low word lies. -/
theorem pack_at (w : World) (g off cap n : Nat) (ws : List Nat) (lo : Nat) (hn : ws.length = n + 1) (hcap : n + 1 ≤ cap) (hm : cap ≤ maxLen) (hg : g < w.heap.size)
    (hc : Hid (∀ i, i < ws.length → w.cell? ⟨g, off + i, none⟩ = some (.int .u64 (ws.getD i 0 : Nat)))) (hlo : Hid (lo = ws.getD 0 0)) :
    Calls Tryd.prog 63 #[.slice (some ⟨g, off, none⟩) (n + 1 : Nat) cap] w fun e w' => ∃ hv, e = .returned (.agg #[.int .u64 lo, hv]) ∧ PackRes w' g ws hv ∧ Kept (fun _ => False) w w' := by
  have hm' : cap ≤ 9223372036854775807 := by unfold maxLen at hm; omega
  have c0 := hc.out 0 (by omega)
  rw [← hlo.out, Nat.add_zero] at c0
  have hdl : (ws.drop 1).length = n := by simp [hn]
  obtain ⟨A, hA, hAb, hcase⟩ : ∃ A : Value, Words w A (ws.drop 1) ∧ A.ownBlock = some g ∧ ((cap = 1 ∧ n = 0 ∧ A = .slice (some ⟨g, off, none⟩) 0 0) ∨ (cap ≠ 1 ∧ A = .slice (some ⟨g, off + 1, none⟩) n (cap - 1))) := by
    by_cases h1 : cap = 1
    · refine ⟨_, Or.inr ⟨g, off, 0, by rw [hdl, show n = 0 by omega], by rw [hdl]; omega, by simp [maxLen], hg, fun i hi => by rw [hdl] at hi; omega⟩, rfl, Or.inl ⟨h1, by omega, rfl⟩⟩
    · refine ⟨_, Or.inr ⟨g, off + 1, cap - 1, by rw [hdl], by rw [hdl]; omega, by omega, hg, fun i hi => ?_⟩, rfl, Or.inr ⟨h1, rfl⟩⟩
      rw [hdl] at hi
      rw [Nat.add_assoc, hc.out (1 + i) (by omega)]
      simp [Nat.add_comm]
  have HA := Lib.hid hA; clear hA
  have HAb := Lib.hid hAb; clear hAb
  have HN := Lib.hid hn; clear hn
  have HM := Lib.hid hm; clear hm
  have HD := Lib.hid hdl; clear hdl
  have hnn : ((n : Int) + 1 == 0) = false := by simp; omega
  have hb1 : (1 : Int) ≤ (n : Int) + 1 := by omega
  have hb2 : (n : Int) + 1 ≤ (cap : Int) := by omega
  have hb3 : (1 : Int) ≤ (cap : Int) := by omega
  rcases hcase with ⟨rfl, rfl, rfl⟩ | ⟨h1, rfl⟩
  all_goals
    go_enter Tryd.func63, Tryd.ntmps63
    go_wp2_with fail
    go_region_held3 (fun w' => w'.cell? ⟨g, off, none⟩ = some (.int .u64 lo))
      (first | go_keep)
      ((go_at_call 65; refine (trim_any _ _ _ (HA.out.kept (Kept.alloc (fun _ => False) w _).drew (fun _ _ h => h))).mono ?_; rintro e w1 ⟨hv, rfl, ht, rfl⟩; obtain ⟨a, m, c, rfl⟩ := ht.form))
    go_wp2
    refine bodyPost_ret (v := .agg #[.int .u64 lo, .slice a m c]) (by simp [results, Tryd.results63, go_sem]) rfl ⟨_, rfl, ⟨?_⟩, (Kept.alloc _ _ _).drew⟩
    obtain ⟨n', h1', h2', h3', h4'⟩ := ht.ex
    rw [HAb.out] at h4'
    refine ⟨n', h1', h2'.kept (Kept.relay w _ _).drews fun k hk e => ?_, h3', h4'⟩
    rcases h4' with h4' | h4'
    · rw [h4'] at hk; cases hk
    · rw [h4'] at hk; cases hk; omega

/-- The cells of a list of words. -/
def wv (xs : List Nat) : List Value := xs.map fun n : Nat => Value.int .u64 (n : Int)

theorem info_u64 : (Tryd.prog.info? 54).map (fun i => (i.zero, i.size, i.bytes)) = some (some (.int .u64 0), 1, 8) := by kernel_rfl

theorem wv_zero (n : Nat) : (madeCells #[Value.int .u64 0] n).toList = wv (List.replicate n 0) := by
  refine List.ext_getElem (by simp [madeCells, wv]) fun i h1 h2 => ?_
  simp [madeCells, wv, Nat.mod_one]

theorem wv_length (xs : List Nat) : (wv xs).length = xs.length := by simp [wv]
theorem wv_getD (xs : List Nat) (i : Nat) (h : i < xs.length) : (wv xs)[i]? = some (.int .u64 (xs.getD i 0 : Nat)) := by simp [wv, List.getD, h]
theorem wv_set (xs : List Nat) (i z : Nat) : (wv xs).set i (.int .u64 (z : Int)) = wv (xs.set i z) := by simp [wv]

set_option maxRecDepth 100000 in
set_option maxHeartbeats 1600000 in
theorem of_at (w : World) (g off cap : Nat) (xs : List Int) (hcap : xs.length ≤ cap) (hm : cap ≤ maxLen) (hg : g < w.heap.size) (hc : Hid (∀ i, i < xs.length → w.cell? ⟨g, off + i, none⟩ = some (.int .i64 (xs.getD i 0)))) :
    Calls Tryd.prog 31 #[.slice (some ⟨g, off, none⟩) xs.length cap] w fun e w' => ∃ v, e = .returned v ∧ SetV w' v (maskOf xs) ∧ (∀ k, setBlk v k → w.heap.size ≤ k) ∧ Kept (fun _ => False) w w' := by
  have hl : xs.length ≤ 9223372036854775807 := by unfold maxLen at hm; omega
  obtain ⟨i0, hi, hz0, hz1, hz2⟩ := info_parts info_u64
  have hgb := gOf_bounds xs
  obtain ⟨n, hn⟩ : ∃ n : Nat, n = ((gOf xs + 64) / 64).toNat := ⟨_, rfl⟩
  have hnn : (gOf xs + 64) / 64 = (n : Int) := by omega
  have hn64 : n ≤ 64 := by omega
  have HN := Lib.hid hn; clear hn
  have HNN := Lib.hid hnn; clear hnn
  have hI : Ints w (.slice (some ⟨g, off, none⟩) xs.length cap) xs := Or.inr ⟨g, off, cap, rfl, hcap, hm, hg, hc.out⟩
  have HI := Lib.hid hI; clear hI
  clear hm
  go_enter Tryd.func31, Tryd.ntmps31
  go_wp2_with fail
  refine (greatestOf_any _ _ xs (HI.out.kept (Kept.alloc (fun _ => False) w _) (fun _ _ h => h))).mono ?_
  rintro e w' ⟨rfl, rfl⟩
  go_wp2_with fail
  refine (wordsFor_any _ _ hgb.1 hgb.2).mono ?_
  rintro e w' ⟨rfl, rfl⟩
  rw [HNN.out]
  go_wp2_with (refine wpList_make_full _ rfl _ _ _ rfl w.heap.size 54 i0 _ 1 Tryd.underlying55 hi hz0 hz1 _ _ _ _ n rfl rfl rfl rfl (by rw [hz2]; omega) (by unfold maxLen; omega) (by simp) ?_)
  intro wA hownA hgrowA
  rw [wv_zero, ← wl_zero] at hownA
  have hkA : Kept (fun _ => False) w wA := (Kept.alloc (fun _ => False) w _).trans (Kept.ofGrown (S := fun _ => False) hgrowA (fun k e => by cases e)) (fun _ _ h => h) (fun _ _ h => h)
  have r0 : wA.cell? ⟨w.heap.size, 0, none⟩ = some (.int .u64 0) := (hgrowA.cell_far ⟨w.heap.size, 0, none⟩ (by simp) (by simp)).trans (by go_simp)
  have r1 : wA.cell? ⟨w.heap.size, 1, none⟩ = some (.slice none 0 0) := (hgrowA.cell_far ⟨w.heap.size, 1, none⟩ (by simp) (by simp)).trans (by go_simp)
  have rf : ∀ i, wA.frozen? ⟨w.heap.size, i, none⟩ = false := fun i => (hgrowA.frozen_far ⟨w.heap.size, i, none⟩ (by simp) (by simp)).trans (by go_simp)
  have hAs : w.heap.size + 1 < wA.heap.size := by
    obtain ⟨_, hh⟩ := hownA
    rcases hh with ⟨h, _⟩ | ⟨g', cap', cur, h, _, hg', _⟩
    · cases h
    · cases h; exact (Array.getElem?_eq_some_iff.1 hg').1
  have RF := Lib.hid rf; clear rf
  have R0 := Lib.hid r0; clear r0
  have R1 := Lib.hid r1; clear r1
  have HOA := Lib.hid hownA; clear hownA
  clear hgrowA
  go_wp2_with fail
  go_loopw [12] (fun iv wr => ∃ k : Nat, k ≤ xs.length ∧ iv = .int .i64 k ∧ Hid (wr.ownsRow w.heap.size 54 1 (.slice (some ⟨w.heap.size + 1, 0, none⟩) n n) n (wv (wl (maskOf (xs.take k)) n))) ∧ Kept (fun k => k = w.heap.size + 1) wA wr) (fun iv _ => xs.length - (intOf iv).toNat)
  case atStart => exact ⟨0, Nat.zero_le _, rfl, HOA.out, Kept.refl _ _⟩
  case round =>
    obtain ⟨k, hk, rfl, ho, hkr⟩ := hrel
    by_cases hlt : k < xs.length
    · have hlt' : (k : Int) < (xs.length : Int) := by omega
      obtain ⟨x, hx⟩ : ∃ x, x = xs.getD k 0 := ⟨_, rfl⟩
      have ck : wr.cell? ⟨g, off + k, none⟩ = some (.int .i64 x) := by
        rw [hx, hkr.cell (p := ⟨g, off + k, none⟩) (Nat.lt_of_lt_of_le hg hkA.size) (by simp; omega), hkA.cell (p := ⟨g, off + k, none⟩) hg (fun h => h)]
        exact hc.out k hlt
      have hmt := maskOf_take xs k hlt
      rw [← hx] at hmt
      by_cases hp : 0 ≤ x ∧ x ≤ 4095
      · have hge := gOf_ge xs x (by rw [hx, List.getD_eq_getElem?_getD, List.getElem?_eq_getElem hlt]; exact List.getElem_mem _) hp.1 hp.2
        have HX := Lib.hid hx; clear hx
        obtain ⟨xn, rfl⟩ := Int.eq_ofNat_of_zero_le hp.1
        have hxn : (xn : Int) ≤ 4095 := hp.2
        obtain ⟨q, hqq⟩ : ∃ q : Nat, q = xn / 64 := ⟨_, rfl⟩
        obtain ⟨b, hb⟩ : ∃ b : Nat, b = 2 ^ (xn % 64) := ⟨_, rfl⟩
        obtain ⟨y, hy⟩ : ∃ y : Nat, y = (wl (maskOf (xs.take k)) n).getD q 0 := ⟨_, rfl⟩
        obtain ⟨z, hz⟩ : ∃ z : Nat, z = y ||| b := ⟨_, rfl⟩
        have hqn : q < n := by have := HNN.out; omega
        have hq : ((xn : Int) / 64) = (q : Int) := by omega
        have hq0 : (0 : Int) ≤ (q : Int) := by omega
        have hqw : IntKind.i64.wrap (q : Int) = (q : Int) := IntWalk.i64_in _ (by omega)
        have hq1 : (q : Int) < (n : Int) := by omega
        have cq : wr.cell? ⟨w.heap.size + 1, q, none⟩ = some (.int .u64 y) := by
          rw [ho.out.cellAt q (by omega), wv_getD _ _ (by rw [wl_length]; exact hqn), hy]
        have fq : wr.frozen? ⟨w.heap.size + 1, q, none⟩ = false := ho.out.frozenAt q
        have hy64 : y < 18446744073709551616 := by
          rw [hy, wl_getD _ _ _ hqn]
          exact Nat.mod_lt _ (by omega)
        have hb64 : b < 18446744073709551616 := by
          rw [hb]
          have : (2 : Nat) ^ (xn % 64) < 2 ^ 64 := Nat.pow_lt_pow_right (by omega) (by omega)
          simpa using this
        have hor : bits .or .u64 (y : Int) (b : Int) = (z : Int) := by rw [hz]; exact u64_or_nat _ _ hy64 hb64
        have hfin : wv ((wl (maskOf (xs.take k)) n).set q z) = wv (wl (maskOf (xs.take (k + 1))) n) := by
          rw [hmt, addM, if_pos ⟨hp.1, hxn⟩, Int.toNat_natCast, ← wl_or _ _ _ (by rw [← hqq]; exact hqn), ← hqq, ← hb, ← hy, ← hz]
        have HF := Lib.hid hfin; clear hfin
        have HB := Lib.hid hb; clear hb
        clear hmt hy hz hqq hy64 hb64 hp hge
        go_wp2_with fail
        refine (possible_yes _ xn (by omega) hxn).mono ?_
        rintro e w' ⟨rfl, rfl⟩
        go_wp2_with fail
        go_region_law ((go_simp; go_at_call 62; refine (bit_any _ xn b (by omega) HB).mono ?_; rintro e w' ⟨rfl, rfl⟩))
        all_goals
          go_wp2
          go_roundw
          case rel =>
            have hst := ho.out.stored q (.int .u64 (z : Int))
            rw [wv_set, HF.out] at hst
            exact ⟨k + 1, by omega, by go_num, hst.1, hkr.trans (Kept.setCell (fun k => k = w.heap.size + 1) _ _ _ rfl).drew (fun _ _ h => h) (fun _ _ h => h)⟩
          case measure => simp [intOf]; omega
      · have HX := Lib.hid hx; clear hx
        rw [addM, if_neg hp] at hmt
        have HMT := Lib.hid hmt; clear hmt
        go_wp2_with fail
        refine (possible_no _ x (by omega)).mono ?_
        rintro e w' ⟨rfl, rfl⟩
        go_wp2
        go_roundw
        case rel => exact ⟨k + 1, by omega, by go_num, by show World.ownsRow _ _ _ _ _ _ _; rw [HMT.out]; exact ho.out, hkr⟩
        case measure => simp [intOf]; omega
    · obtain rfl : k = xs.length := by omega
      rw [List.take_length] at ho
      have hM : maskOf xs < 2 ^ (64 * n) := by rw [HN.out]; exact mask_lt xs
      have c0 : wr.cell? ⟨w.heap.size, 0, none⟩ = some (.int .u64 0) := (hkr.cell (p := ⟨w.heap.size, 0, none⟩) (by simp; omega) (by simp)).trans R0.out
      have c1 : wr.cell? ⟨w.heap.size, 1, none⟩ = some (.slice none 0 0) := (hkr.cell (p := ⟨w.heap.size, 1, none⟩) (by simp; omega) (by simp)).trans R1.out
      have f0 : wr.frozen? ⟨w.heap.size, 0, none⟩ = false := (hkr.frozen (p := ⟨w.heap.size, 0, none⟩) (by simp; omega) (by simp)).trans (RF.out 0)
      have f1 : wr.frozen? ⟨w.heap.size, 1, none⟩ = false := (hkr.frozen (p := ⟨w.heap.size, 1, none⟩) (by simp; omega) (by simp)).trans (RF.out 1)
      have hwr : w.heap.size + 1 < wr.heap.size := Nat.lt_of_lt_of_le hAs hkr.size
      have hkw : Kept (fun _ => False) w wr := hkA.trans hkr (fun _ _ h => h) (fun i hi e => by omega)
      have C0 := Lib.hid c0; have C1 := Lib.hid c1; have F0 := Lib.hid f0; have F1 := Lib.hid f1; clear c0 c1 f0 f1
      have HM := Lib.hid hM; clear hM
      by_cases hn0 : n = 0
      · have HN0 := Lib.hid hn0; clear hn0
        have hM0 : maskOf xs = 0 := by have := HM.out; rw [HN0.out] at this; simpa using this
        have HM0 := Lib.hid hM0; clear hM0
        go_wp2_with fail
        rw [HN0.out]
        refine (pack_nil wr _ 0).mono ?_
        rintro e w1 ⟨rfl, hk1⟩
        have c0 := (hk1.cell (p := ⟨w.heap.size, 0, none⟩) (by simp; omega) (by simp)).trans C0.out
        have c1 := (hk1.cell (p := ⟨w.heap.size, 1, none⟩) (by simp; omega) (by simp)).trans C1.out
        have f0 := (hk1.frozen (p := ⟨w.heap.size, 0, none⟩) (by simp; omega) (by simp)).trans F0.out
        have f1 := (hk1.frozen (p := ⟨w.heap.size, 1, none⟩) (by simp; omega) (by simp)).trans F1.out
        go_wp2
        refine bodyPost_ret (v := .agg #[.int .u64 0, .slice none 0 0]) (by simp [results, Tryd.results31, go_sem, c0, c1]) rfl ⟨_, rfl, ?_, ?_, ?_⟩
        · rw [HM0.out]
          exact ⟨⟨_, [], rfl, Or.inl ⟨rfl, rfl⟩, ⟨rfl, by simp, Or.inl rfl⟩, fun _ => rfl⟩⟩
        · rintro k ⟨lo, hv, he, hb⟩
          cases he
          simp [Value.ownBlock] at hb
        · exact (hkw.trans hk1 (fun _ _ h => h) (fun _ _ h => h)).trans ((Kept.setCell (fun k => k = w.heap.size) _ ⟨w.heap.size, 0, none⟩ _ rfl).trans (Kept.setCell (fun k => k = w.heap.size) _ ⟨w.heap.size, 1, none⟩ _ rfl) (fun _ _ h => h) (fun _ _ h => h)) (fun _ _ h => h) (fun i hi e => by omega)
      · obtain ⟨m, hm⟩ : ∃ m, n = m + 1 := ⟨n - 1, by omega⟩
        clear hn0
        obtain ⟨lo, hlo⟩ : ∃ lo : Nat, lo = (wl (maskOf xs) n).getD 0 0 := ⟨_, rfl⟩
        have hcells : ∀ i, i < (wl (maskOf xs) n).length → wr.cell? ⟨w.heap.size + 1, 0 + i, none⟩ = some (.int .u64 ((wl (maskOf xs) n).getD i 0 : Nat)) := fun i hi => by
          rw [Nat.zero_add, ho.out.cellAt i (by rw [wl_length] at hi; omega), wv_getD _ _ hi]
        have HP := Lib.hid (pack_at wr (w.heap.size + 1) 0 n m (wl (maskOf xs) n) lo (by rw [wl_length, hm]) (by omega) (by unfold maxLen; omega) hwr hcells hlo)
        have HCE := Lib.hid hcells; clear hcells
        have HLO := Lib.hid hlo; clear hlo
        rw [← hm] at HP
        have HMM := Lib.hid hm; clear hm
        go_wp2_with fail
        refine HP.out.mono ?_
        rintro e w1 ⟨hv, rfl, hpr, hk1⟩
        have c0 := (hk1.cell (p := ⟨w.heap.size, 0, none⟩) (by simp; omega) (by simp)).trans C0.out
        have c1 := (hk1.cell (p := ⟨w.heap.size, 1, none⟩) (by simp; omega) (by simp)).trans C1.out
        have f0 := (hk1.frozen (p := ⟨w.heap.size, 0, none⟩) (by simp; omega) (by simp)).trans F0.out
        have f1 := (hk1.frozen (p := ⟨w.heap.size, 1, none⟩) (by simp; omega) (by simp)).trans F1.out
        obtain ⟨t, ht1, ht2, ht3, ht4⟩ := hpr.ex
        obtain ⟨a, c, hform⟩ := ht2.form
        have HT1 := Lib.hid ht1; have HT2 := Lib.hid ht2; have HT3 := Lib.hid ht3; have HT4 := Lib.hid ht4; clear ht1 ht2 ht3 ht4 hpr
        generalize (((wl (maskOf xs) n).drop 1).take t).length = tl at hform
        subst hform
        go_wp2
        refine bodyPost_ret (v := .agg #[.int .u64 lo, .slice a tl c]) (by simp [results, Tryd.results31, go_sem, c0, c1]) rfl ⟨_, rfl, ?_, ?_, ?_⟩
        · have hlo : lo = maskOf xs % 2 ^ 64 := by
            have := HMM.out
            rw [HLO.out, wl_getD _ _ _ (by omega)]
            simp
          have ht := HT1.out
          rw [wl_drop1] at ht
          have hM2 : maskOf xs / 2 ^ 64 < 2 ^ (64 * (n - 1)) := by
            refine Nat.div_lt_of_lt_mul ?_
            rw [← Nat.pow_add, show 64 + 64 * (n - 1) = 64 * n by have := HMM.out; omega]
            exact HM.out
          have hcan := ht.canon hM2
          rw [← wl_drop1] at hcan
          refine ⟨⟨_, _, by rw [hlo], HT2.out.kept ((Kept.setCell (fun k => k = w.heap.size) _ ⟨w.heap.size, 0, none⟩ _ rfl).trans (Kept.setCell (fun k => k = w.heap.size) _ ⟨w.heap.size, 1, none⟩ _ rfl) (fun _ _ h => h) (fun _ _ h => h)) ?_, hcan, ?_⟩⟩
          · intro k hk e
            rcases HT4.out with h4 | h4
            · rw [h4] at hk; cases hk
            · rw [h4] at hk; cases hk; omega
          · intro hnil
            refine HT3.out ?_
            have := congrArg List.length hnil
            have hle := HT1.out.le
            simp at this hle
            omega
        · rintro k ⟨lo', hv', he, hb⟩
          cases he
          rcases HT4.out with h4 | h4
          · rw [h4] at hb; cases hb
          · rw [h4] at hb; cases hb; omega
        · exact (hkw.trans hk1 (fun _ _ h => h) (fun _ _ h => h)).trans ((Kept.setCell (fun k => k = w.heap.size) _ ⟨w.heap.size, 0, none⟩ _ rfl).trans (Kept.setCell (fun k => k = w.heap.size) _ ⟨w.heap.size, 1, none⟩ _ rfl) (fun _ _ h => h) (fun _ _ h => h)) (fun _ _ h => h) (fun i hi e => by omega)

end Go.Proofs.YtjglnpijngdpkaaDoor
/-
  bits.Set: Has; With of a member below 64 or that is there.
-/
namespace Go.Proofs.YtjglnpijngdpkaaDoor
open Go.RowKit

theorem word_bit (M i : Nat) : (M / 2 ^ (64 * (i / 64)) % 2 ^ 64) &&& 2 ^ (i % 64) = if M.testBit i = true then 2 ^ (i % 64) else 0 := by
  apply Nat.eq_of_testBit_eq
  intro j
  rw [Nat.testBit_and, Nat.testBit_mod_two_pow, Nat.testBit_div_two_pow, Nat.testBit_two_pow]
  by_cases hj : i % 64 = j
  · subst hj
    have h1 : i % 64 < 64 := Nat.mod_lt _ (by omega)
    have h3 : i % 64 + 64 * (i / 64) = i := by omega
    cases hM : M.testBit i <;> simp [h1, h3, hM]
  · cases hM : M.testBit i <;> simp [hj]

set_option maxRecDepth 100000 in
set_option maxHeartbeats 1600000 in
theorem has_any (w : World) (v : Value) (M i : Nat) (h : SetV w v M) (hi : i ≤ 4095) :
    Calls Tryd.prog 39 #[v, .int .i64 i] w fun e w' => e = .returned (.bool (M.testBit i)) ∧ Kept (fun _ => False) w w' := by
  obtain ⟨hv, hs, rfl, hw, hc, _⟩ := h.ex
  obtain ⟨k, hk⟩ : ∃ k, k = i / 64 := ⟨_, rfl⟩
  obtain ⟨lo, hlo⟩ : ∃ lo, lo = M % 2 ^ 64 := ⟨_, rfl⟩
  obtain ⟨y, hy⟩ : ∃ y, y = M / 2 ^ (64 * k) % 2 ^ 64 := ⟨_, rfl⟩
  obtain ⟨b, hb⟩ : ∃ b, b = 2 ^ (i % 64) := ⟨_, rfl⟩
  have hwd : wd lo hs k = y := by rw [hlo, hy]; exact wd_word M hs hc k
  have hyl : y < 2 ^ 64 := by rw [hy]; exact Nat.mod_lt _ (by decide)
  have hbl : b < 2 ^ 64 := by rw [hb]; exact Nat.pow_lt_pow_right (by omega) (Nat.mod_lt _ (by omega))
  have hb0 : b ≠ 0 := by rw [hb]; exact Nat.ne_of_gt (Nat.pow_pos (by omega))
  have hand : y &&& b = if M.testBit i = true then b else 0 := by rw [hy, hb, hk]; exact word_bit M i
  obtain ⟨T, hT⟩ : ∃ T, T = M.testBit i := ⟨_, rfl⟩
  rw [← hT] at hand ⊢
  have hxa : bits .and .u64 (y : Int) (b : Int) = ((y &&& b : Nat) : Int) := by rw [u64_and_nat _ _ (by omega) (by omega)]
  obtain ⟨z, hz⟩ : ∃ z, z = y &&& b := ⟨_, rfl⟩
  rw [← hz] at hxa hand
  have hkw := hw.kept (Kept.alloc (fun _ => False) w (.cells #[.int .u64 lo, hv] 57)) (fun _ _ h => h)
  have HWD := Lib.hid (word_any (w.alloc (.cells #[.int .u64 lo, hv] 57)) lo hv hs k hkw (by omega))
  have HB := Lib.hid (fun (W : World) => bit_any W i b (by omega) hb)
  rw [hwd] at HWD
  rw [← hlo]
  have hE : Hid ((i : Int).tdiv 64 = (k : Int) ∧ (i : Int) / 64 = (k : Int)) := ⟨by rw [Int.tdiv_eq_ediv_of_nonneg (by omega)]; omega, by omega⟩
  have hcs : (T = true ∧ z ≠ 0) ∨ (T = false ∧ z = 0) := by
    cases T with
    | true => rw [if_pos rfl] at hand; exact Or.inl ⟨rfl, by rw [hand]; exact hb0⟩
    | false => rw [if_neg (by decide)] at hand; exact Or.inr ⟨rfl, hand⟩
  clear hk hlo hy hb hwd hand hT hz hkw hw hc h hyl hbl hb0
  obtain ⟨e1, e2⟩ := hE.out
  have hcs : (T = true ∧ z ≠ 0 ∧ ((z : Int) != 0) = true) ∨ (T = false ∧ z = 0 ∧ ((z : Int) != 0) = false) := by
    rcases hcs with ⟨h1, h2⟩ | ⟨h1, h2⟩
    · exact Or.inl ⟨h1, h2, by simp; omega⟩
    · exact Or.inr ⟨h1, h2, by simp [h2]⟩
  rcases hcs with ⟨rfl, hz, hzi⟩ | ⟨rfl, rfl, hzi⟩
  all_goals
    go_enter Tryd.func39, Tryd.ntmps39
    go_wp2_with fail
    refine (possible_yes _ _ (by omega) (by omega)).mono ?_
    rintro e w1 ⟨rfl, rfl⟩
    go_wp2_with fail
    refine HWD.out.mono ?_
    rintro e w1 ⟨rfl, hk1⟩
    have K1 := Lib.hid ((Kept.alloc (fun _ => False) w (.cells #[.int .u64 lo, hv] 57)).then hk1)
    clear hk1
    go_wp2_with fail
    refine (HB.out w1).mono ?_
    rintro e w2 ⟨rfl, rfl⟩
    go_wp2_with fail
    go_ret
    exact ⟨by simp, K1.out⟩
end Go.Proofs.YtjglnpijngdpkaaDoor
/-
  bits.Set: With of a member (from 0 to 4095).
-/
namespace Go.Proofs.YtjglnpijngdpkaaDoor
open Go.RowKit

theorem or_same (M i : Nat) (h : M.testBit i = true) : M ||| 2 ^ i = M := by
  refine Nat.eq_of_testBit_eq fun j => ?_
  rw [Nat.testBit_or, Nat.testBit_two_pow]
  by_cases hj : i = j
  · subst hj; simp [h]
  · simp [hj]

theorem or_low_mod (M i : Nat) (h : i < 64) : (M ||| 2 ^ i) % 2 ^ 64 = M % 2 ^ 64 ||| 2 ^ i := by
  have := word_or M i 0
  rw [if_pos (by omega), Nat.mod_eq_of_lt h] at this
  simpa using this

theorem or_low_div (M i : Nat) (h : i < 64) : (M ||| 2 ^ i) / 2 ^ 64 = M / 2 ^ 64 := by
  refine Nat.eq_of_testBit_eq fun j => ?_
  rw [Nat.testBit_div_two_pow, Nat.testBit_div_two_pow, Nat.testBit_or, Nat.testBit_two_pow]
  have : ¬ i = j + 64 := by omega
  simp [this]

theorem or_high_mod (M i : Nat) (h : 64 ≤ i) : (M ||| 2 ^ i) % 2 ^ 64 = M % 2 ^ 64 := by
  have := word_or M i 0
  rw [if_neg (by omega)] at this
  simpa using this

theorem or_high_div (M i : Nat) (h : 64 ≤ i) : (M ||| 2 ^ i) / 2 ^ 64 = M / 2 ^ 64 ||| 2 ^ (i - 64) := by
  refine Nat.eq_of_testBit_eq fun j => ?_
  rw [Nat.testBit_div_two_pow, Nat.testBit_or, Nat.testBit_or, Nat.testBit_two_pow, Nat.testBit_two_pow, Nat.testBit_div_two_pow]
  have : (i = j + 64) ↔ (i - 64 = j) := by omega
  simp [this]

/-- The words with room for a further one are the number's words. -/
theorem wl_room (hs : List Nat) (M m : Nat) (h : Canon hs M) (hm : hs.length ≤ m) : hs ++ List.replicate (m - hs.length) 0 = wl M m := by
  refine List.ext_getElem (by simp [wl_length]; omega) fun i h1 h2 => ?_
  have hi : i < m := by simpa [wl_length] using h2
  have e2 : (wl M m)[i] = M / 2 ^ (64 * i) % 2 ^ 64 := by simp [wl]
  rw [e2]
  by_cases hlt : i < hs.length
  · rw [List.getElem_append_left hlt]
    have := congrArg (fun l => l.getD i 0) h.eq
    simp only [wl_getD _ _ _ hlt] at this
    rw [← this]
    simp [List.getD, hlt]
  · rw [List.getElem_append_right (by omega)]
    have hM : M < 2 ^ (64 * i) := Nat.lt_of_lt_of_le h.lt (Nat.pow_le_pow_right (by omega) (by omega))
    rw [Nat.div_eq_of_lt hM]
    simp

/-- With a further member the words are still no more than asked for. -/
theorem canon_with (hs : List Nat) (M j m : Nat) (h : Canon hs M) (hm : m = max hs.length (j / 64 + 1)) : Canon (wl (M ||| 2 ^ j) m) (M ||| 2 ^ j) := by
  have hM : M < 2 ^ (64 * m) := Nat.lt_of_lt_of_le h.lt (Nat.pow_le_pow_right (by omega) (by omega))
  refine ⟨by rw [wl_length], ?_, Or.inr ?_⟩
  · rw [wl_length]
    exact Nat.or_lt_two_pow hM (Nat.pow_lt_pow_right (by omega) (by omega))
  · rw [wl_length]
    intro h0
    have hz : ∀ x, (M ||| 2 ^ j).testBit (x + 64 * (m - 1)) = false := fun x => by
      have := congrArg (fun n => n.testBit x) h0
      simpa [Nat.testBit_div_two_pow] using this
    by_cases hj : m = j / 64 + 1
    · have := hz (j % 64)
      rw [show j % 64 + 64 * (m - 1) = j by omega, Nat.testBit_or, Nat.testBit_two_pow] at this
      simp at this
    · rcases h.last with e | e
      · omega
      · refine e (Nat.eq_of_testBit_eq fun x => ?_)
        have := hz x
        rw [Nat.testBit_or] at this
        rw [Nat.testBit_div_two_pow, show hs.length - 1 = m - 1 by omega]
        simp at this
        simp [this.1]

/-- With's frame: the set in a block of its own, the result in the next one. -/
structure Fr (w w1 : World) (lo : Nat) (v : Value) : Prop where
  c0 : w1.cell? ⟨w.heap.size, 0, none⟩ = some (.int .u64 lo)
  c1 : w1.cell? ⟨w.heap.size, 1, none⟩ = some v
  r0 : w1.cell? ⟨w.heap.size + 1, 0, none⟩ = some (.int .u64 0)
  r1 : w1.cell? ⟨w.heap.size + 1, 1, none⟩ = some (.slice none 0 0)
  f0 : w1.frozen? ⟨w.heap.size + 1, 0, none⟩ = false
  f1 : w1.frozen? ⟨w.heap.size + 1, 1, none⟩ = false
  lt : w.heap.size + 1 < w1.heap.size
  kept : Kept (fun _ => False) w w1

theorem Fr.new {w w1 : World} {lo : Nat} {a : Option Addr} {n c : Nat} (h : Kept (fun _ => False) ((w.alloc (.cells #[.int .u64 lo, .slice a n c] 57)).alloc (.cells #[.int .u64 0, .slice none 0 0] 57)) w1) : Fr w w1 lo (.slice a n c) := by
  have hs : ((w.alloc (.cells #[.int .u64 lo, .slice a n c] 57)).alloc (.cells #[.int .u64 0, .slice none 0 0] 57)).heap.size = w.heap.size + 2 := by simp
  exact ⟨(h.cell (p := ⟨w.heap.size, 0, none⟩) (by rw [hs]; exact Nat.lt_succ_of_lt (Nat.lt_succ_self _)) (fun h => h)).trans (by go_simp),
    (h.cell (p := ⟨w.heap.size, 1, none⟩) (by rw [hs]; exact Nat.lt_succ_of_lt (Nat.lt_succ_self _)) (fun h => h)).trans (by go_simp),
    (h.cell (p := ⟨w.heap.size + 1, 0, none⟩) (by rw [hs]; exact Nat.lt_succ_self _) (fun h => h)).trans (by go_simp),
    (h.cell (p := ⟨w.heap.size + 1, 1, none⟩) (by rw [hs]; exact Nat.lt_succ_self _) (fun h => h)).trans (by go_simp),
    (h.frozen (p := ⟨w.heap.size + 1, 0, none⟩) (by rw [hs]; exact Nat.lt_succ_self _) (fun h => h)).trans (by go_simp),
    (h.frozen (p := ⟨w.heap.size + 1, 1, none⟩) (by rw [hs]; exact Nat.lt_succ_self _) (fun h => h)).trans (by go_simp),
    Nat.lt_of_lt_of_le (by rw [hs]; exact Nat.lt_succ_self _) h.size,
    ((Kept.alloc (fun _ => False) w _).then (Kept.alloc (fun _ => False) _ _)).trans h (fun _ _ h => h) (fun _ _ h => h)⟩

theorem Fr.drew {w w1 : World} {lo : Nat} {v : Value} (h : Fr w w1 lo v) : Fr w w1.drew lo v := ⟨h.c0, h.c1, h.r0, h.r1, h.f0, h.f1, h.lt, h.kept.drew⟩

theorem Fr.keptS {w a b : World} {lo : Nat} {v : Value} {S : Nat → Prop} (h : Fr w a lo v) (hk : Kept S a b) (hn : ∀ k, k ≤ w.heap.size + 1 → ¬ S k) : Fr w b lo v := by
  have l0 : w.heap.size < a.heap.size := Nat.lt_of_succ_lt h.lt
  have n0 := hn w.heap.size (Nat.le_succ _)
  have n1 := hn (w.heap.size + 1) (Nat.le_refl _)
  exact ⟨(hk.cell (p := ⟨w.heap.size, 0, none⟩) l0 n0).trans h.c0, (hk.cell (p := ⟨w.heap.size, 1, none⟩) l0 n0).trans h.c1,
    (hk.cell (p := ⟨w.heap.size + 1, 0, none⟩) h.lt n1).trans h.r0, (hk.cell (p := ⟨w.heap.size + 1, 1, none⟩) h.lt n1).trans h.r1,
    (hk.frozen (p := ⟨w.heap.size + 1, 0, none⟩) h.lt n1).trans h.f0, (hk.frozen (p := ⟨w.heap.size + 1, 1, none⟩) h.lt n1).trans h.f1,
    Nat.lt_of_lt_of_le h.lt hk.size, h.kept.trans hk (fun _ _ h => h) (fun i hi e => hn i (by omega) e)⟩

theorem Fr.fin {w w1 : World} {lo : Nat} {v : Value} (h : Fr w w1 lo v) (x y : Value) : Kept (fun _ => False) w ((w1.setCell ⟨w.heap.size + 1, 0, none⟩ x).setCell ⟨w.heap.size + 1, 1, none⟩ y) :=
  h.kept.trans ((Kept.setCell (fun k => k = w.heap.size + 1) _ ⟨w.heap.size + 1, 0, none⟩ x rfl).trans (Kept.setCell (fun k => k = w.heap.size + 1) _ ⟨w.heap.size + 1, 1, none⟩ y rfl) (fun _ _ h => h) (fun _ _ h => h)) (fun _ _ h => h) (fun i hi e => by omega)

theorem high_fin (w w3 : World) (g q m lo z N : Nat) (hmod : N % 2 ^ 64 = lo) (hcan : Canon (wl (N / 2 ^ 64) m) (N / 2 ^ 64)) (h1 : 1 ≤ m) (h2 : m ≤ 63) (lt3 : g < w3.heap.size) (lt1 : w.heap.size + 1 < g)
    (hk : Kept (fun _ => False) w w3) (ho : (w3.setCell ⟨g, q, none⟩ (.int .u64 (z : Int))).ownsRow g 54 1 (.slice (some ⟨g, 0, none⟩) m m) m (wv (wl (N / 2 ^ 64) m))) (W : World) (hK : Kept (fun k => k = w.heap.size + 1) (w3.setCell ⟨g, q, none⟩ (.int .u64 (z : Int))) W) :
    SetV W (.agg #[.int .u64 lo, .slice (some ⟨g, 0, none⟩) m m]) N ∧ (∀ k, setBlk (.agg #[.int .u64 lo, .slice (some ⟨g, 0, none⟩) m m]) k → w.heap.size ≤ k) ∧ Kept (fun _ => False) w W := by
  have hsz := (Kept.setCell (fun k => k = g) w3 ⟨g, q, none⟩ (.int .u64 (z : Int)) rfl).size
  refine ⟨⟨_, wl (N / 2 ^ 64) m, by rw [hmod], Or.inr ⟨g, 0, m, by rw [wl_length], by rw [wl_length]; exact Nat.le_refl _, by unfold maxLen; omega, ?_, ?_⟩, hcan, ?_⟩, ?_, ?_⟩
  · exact Nat.lt_of_lt_of_le (Nat.lt_of_lt_of_le lt3 hsz) hK.size
  · intro j hj
    have hj' := hj
    rw [wl_length] at hj'
    rw [Nat.zero_add, hK.cell (p := ⟨g, j, none⟩) (Nat.lt_of_lt_of_le lt3 hsz) (fun e => by have e : g = w.heap.size + 1 := e; omega), ho.cellAt j (by omega), wv_getD _ _ hj]
  · intro e
    have := congrArg List.length e
    rw [wl_length] at this
    simp at this
    omega
  · rintro k ⟨lo', hv', he, hb⟩
    cases he
    simp [Value.ownBlock] at hb
    omega
  · exact (hk.trans (Kept.setCell (fun k => k = g) w3 ⟨g, q, none⟩ (.int .u64 (z : Int)) rfl) (fun _ _ h => h) (fun i hi e => by omega)).trans hK (fun _ _ h => h) (fun i hi e => by omega)

theorem small_with {M i : Nat} (h : Small M) (hi : i ≤ 4095) : Small (M ||| 2 ^ i) :=
  fun e he => Nat.or_lt_two_pow (h e he) (Nat.pow_lt_pow_right (by omega) (by omega))

end Go.Proofs.YtjglnpijngdpkaaDoor
/-
  bits.Set.Equal: two sets are equal exactly if their numbers are.
-/
namespace Go.Proofs.YtjglnpijngdpkaaDoor
open Go.RowKit

theorem wl_inj {A B n : Nat} (hA : A < 2 ^ (64 * n)) (hB : B < 2 ^ (64 * n)) (h : wl A n = wl B n) : A = B := by
  refine Nat.eq_of_testBit_eq fun j => ?_
  by_cases hj : j < 64 * n
  · have h1 := congrArg (fun l => (l.getD (j / 64) 0).testBit (j % 64)) h
    simp only [wl_getD _ _ _ (show j / 64 < n by omega), Nat.testBit_mod_two_pow, Nat.testBit_div_two_pow] at h1
    have h2 : j % 64 < 64 := by omega
    have h3 : j % 64 + 64 * (j / 64) = j := by omega
    simpa [h2, h3] using h1
  · rw [Nat.testBit_lt_two_pow (Nat.lt_of_lt_of_le hA (Nat.pow_le_pow_right (by omega) (by omega))), Nat.testBit_lt_two_pow (Nat.lt_of_lt_of_le hB (Nat.pow_le_pow_right (by omega) (by omega)))]

theorem Canon.inj {hs : List Nat} {A B : Nat} (h : Canon hs A) (k : Canon hs B) : A = B :=
  wl_inj h.lt k.lt (h.eq.symm.trans k.eq)

theorem Canon.le {a b : List Nat} {M : Nat} (h : Canon a M) (k : Canon b M) : b.length ≤ a.length := by
  rcases k.last with e | e
  · omega
  · by_cases hl : b.length ≤ a.length
    · exact hl
    · exfalso
      refine e (Nat.div_eq_of_lt (Nat.lt_of_lt_of_le h.lt (Nat.pow_le_pow_right (by omega) (by omega))))

theorem Canon.uniq {a b : List Nat} {M : Nat} (h : Canon a M) (k : Canon b M) : a = b := by
  have hl : a.length = b.length := Nat.le_antisymm (k.le h) (h.le k)
  rw [h.eq, k.eq, hl]

/-- A row of words, cell by cell. -/
theorem words_form {w : World} {v : Value} {xs : List Nat} (h : Words w v xs) : ∃ a c, v = .slice a xs.length c ∧ xs.length ≤ maxLen ∧ ∀ i, i < xs.length → ∃ g off, a = some ⟨g, off, none⟩ ∧ g < w.heap.size ∧ w.cell? ⟨g, off + i, none⟩ = some (.int .u64 (xs.getD i 0 : Nat)) := by
  rcases h with ⟨h, h2⟩ | ⟨g, off, cap, h, h1, h3, h4, h5⟩
  · exact ⟨none, 0, by rw [h, h2]; rfl, by rw [h2]; simp, fun i hi => by rw [h2] at hi; simp at hi⟩
  · exact ⟨_, _, h, by omega, fun i hi => ⟨g, off, rfl, h4, h5 i hi⟩⟩

theorem take_eq_succ {xs ys : List Nat} {k : Nat} (h : xs.take k = ys.take k) (hx : k < xs.length) (hy : k < ys.length) (he : xs.getD k 0 = ys.getD k 0) : xs.take (k + 1) = ys.take (k + 1) := by
  rw [List.take_succ_eq_append_getElem hx, List.take_succ_eq_append_getElem hy, h]
  simp only [List.getD_eq_getElem?_getD, List.getElem?_eq_getElem hx, List.getElem?_eq_getElem hy, Option.getD_some] at he
  rw [he]

set_option maxRecDepth 100000 in
set_option maxHeartbeats 1600000 in
theorem equalw_any (w : World) (v u : Value) (xs ys : List Nat) (hv : Words w v xs) (hu : Words w u ys) :
    Calls Tryd.prog 71 #[v, u] w fun e w' => e = .returned (.bool (decide (xs = ys))) ∧ Kept (fun _ => False) w w' := by
  obtain ⟨a, c, rfl, hm, hx⟩ := words_form hv
  obtain ⟨a', c', rfl, hm', hy⟩ := words_form hu
  have HX := Lib.hid hx; have HY := Lib.hid hy
  clear hx hy hv hu
  have hm1 : xs.length ≤ 9223372036854775807 := by unfold maxLen at hm; omega
  obtain ⟨n, hn⟩ : ∃ n, n = xs.length := ⟨_, rfl⟩
  obtain ⟨m, hmm⟩ : ∃ m, m = ys.length := ⟨_, rfl⟩
  rw [← hn, ← hmm]
  by_cases hne : n = m
  · have hyl : ys.length = n := by omega
    subst hne
    clear hmm
    go_enter Tryd.func71, Tryd.ntmps71
    rw [← hn] at hm1
    have HN := Lib.hid hn; have HYL := Lib.hid hyl; clear hn hyl hm hm'
    go_wp2_with fail
    go_loopw [13] (fun iv wr => ∃ k : Nat, k ≤ n ∧ iv = .int .i64 k ∧ Hid (xs.take k = ys.take k) ∧ Kept (fun _ => False) w wr) (fun iv _ => n - (intOf iv).toNat)
    case atStart => exact ⟨0, Nat.zero_le _, rfl, rfl, Kept.refl _ _⟩
    case round =>
      obtain ⟨k, hk, rfl, ht, hkw⟩ := hrel
      by_cases hlt : k < n
      · have hlt' : (k : Int) < (n : Int) := by omega
        have hk0 : (0 : Int) ≤ (k : Int) := by omega
        obtain ⟨g, off, rfl, hg, hc⟩ := HX.out k (by rw [← HN.out]; exact hlt)
        obtain ⟨g', off', rfl, hg', hc'⟩ := HY.out k (by rw [HYL.out]; exact hlt)
        obtain ⟨x, hx⟩ : ∃ x, x = xs.getD k 0 := ⟨_, rfl⟩
        obtain ⟨y, hy⟩ : ∃ y, y = ys.getD k 0 := ⟨_, rfl⟩
        rw [← hx] at hc
        rw [← hy] at hc'
        have c1 := (hkw.cell (p := ⟨g, off + k, none⟩) hg (fun h => h)).trans hc
        have c2 := (hkw.cell (p := ⟨g', off' + k, none⟩) hg' (fun h => h)).trans hc'
        have HX1 := Lib.hid hx; have HY1 := Lib.hid hy; clear hx hy hc hc'
        by_cases hxy : x = y
        · subst hxy
          go_wp2_with fail
          go_quiet (fail)
          go_wp2_with fail
          go_roundw
          case rel => exact ⟨k + 1, by omega, by go_num, take_eq_succ ht.out (by rw [← HN.out]; exact hlt) (by rw [HYL.out]; exact hlt) (by rw [← HX1.out, ← HY1.out]), hkw.drewN _⟩
          case measure => simp [intOf]; omega
        · have hb : ((x : Int) == (y : Int)) = false := by simp; omega
          go_wp2_with fail
          go_quiet (fail)
          go_wp2_with fail
          go_ret
          refine ⟨?_, hkw.drewN _⟩
          have : decide (xs = ys) = false := by
            simp only [decide_eq_false_iff_not]
            intro e
            exact hxy (by rw [HX1.out, HY1.out, e])
          rw [this]; rfl
      · obtain rfl : k = n := by omega
        go_wp2_with fail
        go_ret
        refine ⟨?_, hkw⟩
        have h := ht.out
        rw [List.take_of_length_le (by rw [← HN.out]; exact Nat.le_refl _), List.take_of_length_le (by rw [HYL.out]; exact Nat.le_refl _)] at h
        rw [show decide (xs = ys) = true by simpa using h]; rfl
  · have hd : decide (xs = ys) = false := by
      simp only [decide_eq_false_iff_not]
      intro e
      exact hne (by rw [hn, hmm, e])
    rw [hd]
    have hb : ((n : Int) == (m : Int)) = false := by simp; omega
    clear hd hn hmm hm1 hm hm'
    go_enter Tryd.func71, Tryd.ntmps71
    go_wp2_with fail
    go_ret
    exact ⟨rfl, Kept.refl _ _⟩

set_option maxRecDepth 100000 in
set_option maxHeartbeats 800000 in
/-- 'Equal' of any two sets. -/
theorem equal_any (w : World) (v u : Value) (M K : Nat) (hv : SetV w v M) (hu : SetV w u K) :
    Calls Tryd.prog 42 #[v, u] w fun e w' => e = .returned (.bool (decide (M = K))) ∧ Kept (fun _ => False) w w' := by
  obtain ⟨a, hs, rfl, hw, hc, _⟩ := hv.ex
  obtain ⟨b, ks, rfl, hw', hc', _⟩ := hu.ex
  obtain ⟨l1, hl1⟩ : ∃ l, l = M % 2 ^ 64 := ⟨_, rfl⟩
  obtain ⟨l2, hl2⟩ : ∃ l, l = K % 2 ^ 64 := ⟨_, rfl⟩
  rw [← hl1, ← hl2]
  obtain ⟨a1, c1, hf1⟩ := hw.form
  obtain ⟨a2, c2, hf2⟩ := hw'.form
  have hE := fun (W : World) (hk : Kept (fun _ => False) w W) => equalw_any W a b hs ks (hw.kept hk (fun _ _ h => h)) (hw'.kept hk (fun _ _ h => h))
  have HE := Lib.hid hE; clear hE
  generalize hs.length = n1 at hf1
  generalize ks.length = n2 at hf2
  subst hf1 hf2
  have hka : Kept (fun _ => False) w ((w.alloc (.cells #[.int .u64 l1, .slice a1 n1 c1] 57)).alloc (.cells #[.int .u64 l2, .slice a2 n2 c2] 57)) := (Kept.alloc _ _ _).then (Kept.alloc _ _ _)
  have HKA := Lib.hid hka; clear hka
  by_cases hl : l1 = l2
  · have hd : decide (M = K) = decide (hs = ks) := by
      congr 1
      refine propext ⟨fun e => ?_, fun e => ?_⟩
      · subst e; exact hc.uniq hc'
      · subst e
        have h3 := hc.inj hc'
        have h1 := Nat.div_add_mod M (2 ^ 64)
        have h2 := Nat.div_add_mod K (2 ^ 64)
        rw [← h1, ← h2, h3, ← hl1, ← hl2, hl]
    rw [hd]
    clear hd hl1 hl2 hv hu hw hw' hc hc'
    subst hl
    go_enter Tryd.func42, Tryd.ntmps42
    go_wp2_with fail
    refine (HE.out _ HKA.out).mono ?_
    rintro e w1 ⟨rfl, hk⟩
    go_wp2_with fail
    go_ret
    exact ⟨rfl, HKA.out.then hk⟩
  · have hd : decide (M = K) = false := by
      simp only [decide_eq_false_iff_not]
      intro e
      exact hl (by rw [hl1, hl2, e])
    rw [hd]
    have hb : ((l1 : Int) == (l2 : Int)) = false := by simp; omega
    clear hd hl1 hl2 hv hu hw hw' hc hc' HE
    go_enter Tryd.func42, Tryd.ntmps42
    go_wp2_with fail
    go_ret
    exact ⟨rfl, HKA.out⟩

end Go.Proofs.YtjglnpijngdpkaaDoor
/-
  bits: slices.Clone of words; Below; Minus; Without; Or; And.
-/
namespace Go.Proofs.YtjglnpijngdpkaaDoor
open Go.RowKit

set_option maxRecDepth 100000 in
set_option maxHeartbeats 800000 in
theorem uclone_any (v : Value) (xs : List Nat) (w : World) (h : Words w v xs) (hl : xs.length ≤ 63) :
    Calls Tryd.prog 64 #[v] w fun e w' => ∃ v', e = .returned v' ∧ w'.ownsRow w.heap.size 54 1 v' xs.length (wv xs) ∧ Kept (fun _ => False) w w' := by
  obtain ⟨i0, hi, hz0, hz1, hz2⟩ := info_parts info_u64
  have q := fun (W : World) (a : Option Addr) (n c n' c' : Nat) => Lib.run_eql_slice_nil (P := Tryd.prog) W 55 54 a n c n' c' Tryd.underlying55
  rcases h with ⟨rfl, rfl⟩ | ⟨g, off, cap, rfl, h1, h2, h3, h4⟩
  · go_enter Tryd.func64, Tryd.ntmps64
    go_wp2_with fail
    go_ret
    exact ⟨_, rfl, World.ownsRow_nil _ _ _ _, Kept.refl _ _⟩
  · have hown : (w.alloc (.cells #[] 54)).ownsRow w.heap.size 54 1 (.slice (some ⟨w.heap.size, 0, none⟩) 0 0) 0 [] := ⟨by simp, Or.inr ⟨w.heap.size, 0, #[], rfl, Nat.le_refl _, heap_alloc_new w _, Nat.le_refl _, Nat.zero_le _, by simp, by simp⟩⟩
    have hnews : ∀ j u, (wv xs)[j]? = some u → (w.alloc (.cells #[] 54)).cell? ((⟨g, off, none⟩ : Addr).add j) = some u := fun j u hu => by
      have hadd : (⟨g, off, none⟩ : Addr).add j = ⟨g, off + j, none⟩ := by unfold Addr.add; split <;> simp_all
      have hj : j < xs.length := by
        have := (List.getElem?_eq_some_iff.1 hu).1
        simpa [wv] using this
      rw [hadd, World.cell?_alloc_past _ _ _ h3, h4 j hj, ← wv_getD xs j hj]; exact hu
    have hone : ∀ u ∈ wv xs, u.oneCell' = true := fun u hu => by
      simp only [wv, List.mem_map] at hu
      obtain ⟨s, _, rfl⟩ := hu
      rfl
    obtain ⟨n, hn⟩ : ∃ n, n = xs.length := ⟨_, rfl⟩
    have hlen : (wv xs).length = n * 1 := by simp [wv, hn]
    rw [← hn] at hl ⊢
    have HO := Lib.hid hown; have HN := Lib.hid hnews; have H1 := Lib.hid hone; have HL := Lib.hid hlen
    clear hown hnews hone hlen h1 h2 h3 h4 hn
    generalize wv xs = vs at *
    go_enter Tryd.func64, Tryd.ntmps64
    go_wp2_with (at_builtin; refine wpList_append_own_at _ rfl _ _ _ rfl w.heap.size 54 i0 _ 1 8 Tryd.underlying55 hi hz0 hz1 hz2 rfl (by omega) (.slice (some ⟨w.heap.size, 0, none⟩) 0 0) 0 [] rfl HO.out ⟨g, off, none⟩ n cap vs rfl HL.out HN.out H1.out (by unfold maxLen; omega) (by omega) (by simp) ?_)
    intro v' w1 hown1 hgrow _ hat
    have hk := (Kept.alloc (fun _ => False) w (.cells #[] 54)).trans (T := fun _ => False) (Kept.ofGrown (S := fun k => k = w.heap.size) hgrow (fun k e => by simp [Value.ownBlock] at e; exact e.symm)) (fun _ _ h => h) (fun i hi e => by omega)
    have HO1 := Lib.hid hown1; have HK := Lib.hid hk
    clear hown1 hgrow hat hk
    go_wp2
    go_ret
    exact ⟨_, rfl, by simpa using HO1.out, HK.out⟩
end Go.Proofs.YtjglnpijngdpkaaDoor
/-
  Plain words on the number that bytes stand for (byte number i has the value 256^i). No program is named here.
-/
namespace Go.Proofs.YtjglnpijngdpkaaDoor

def numLE : List Nat → Nat
  | [] => 0
  | b :: t => b + 256 * numLE t

theorem numLE_lt : ∀ (p : List Nat), (∀ b ∈ p, b < 256) → numLE p < 2 ^ (8 * p.length)
  | [], _ => by simp [numLE]
  | b :: t, h => by
    have h1 := numLE_lt t fun x hx => h x (List.mem_cons_of_mem _ hx)
    have h2 := h b List.mem_cons_self
    rw [numLE, List.length_cons, show 8 * (t.length + 1) = 8 * t.length + 8 by omega, Nat.pow_add]
    omega

theorem numLE_append : ∀ (p q : List Nat), numLE (p ++ q) = numLE p + 2 ^ (8 * p.length) * numLE q
  | [], q => by simp [numLE]
  | b :: t, q => by
    rw [List.cons_append, numLE, numLE_append t q, numLE, List.length_cons, show 8 * (t.length + 1) = 8 * t.length + 8 by omega, Nat.pow_add, Nat.mul_add, show (2 : Nat) ^ 8 = 256 from rfl]
    rw [show 256 * (2 ^ (8 * t.length) * numLE q) = 2 ^ (8 * t.length) * 256 * numLE q by rw [Nat.mul_comm _ 256, Nat.mul_assoc]]
    omega

theorem numLE_snoc (p : List Nat) (k : Nat) (hk : k < p.length) (h : ∀ b ∈ p, b < 256) :
    numLE (p.take (k + 1)) = numLE (p.take k) ||| (p.getD k 0 * 2 ^ (8 * k)) := by
  have hl : (p.take k).length = k := by simp; omega
  have hlt := numLE_lt (p.take k) fun b hb => h b (List.mem_of_mem_take hb)
  rw [hl] at hlt
  rw [List.take_succ_eq_append_getElem hk, numLE_append, hl]
  rw [Nat.or_comm, nat_join (8 * k) _ _ (Nat.mul_mod_left _ _) hlt]
  simp [numLE, List.getD, hk, Nat.mul_comm, Nat.add_comm]

theorem word_byte (M b k j : Nat) (hb : b < 256) : (M ||| b * 2 ^ (8 * k)) / 2 ^ (64 * j) % 2 ^ 64 = if j = k / 8 then (M / 2 ^ (64 * j) % 2 ^ 64) ||| b * 2 ^ (8 * (k % 8)) else M / 2 ^ (64 * j) % 2 ^ 64 := by
  refine Nat.eq_of_testBit_eq fun i => ?_
  have hbig : ∀ m, 8 ≤ m → b.testBit m = false := fun m hm => Nat.testBit_lt_two_pow (Nat.lt_of_lt_of_le hb (by
    have := Nat.pow_le_pow_right (n := 2) (by omega) hm
    simpa using this))
  rw [Nat.testBit_mod_two_pow, Nat.testBit_div_two_pow, Nat.testBit_or, Nat.testBit_mul_two_pow]
  split
  · rename_i hj
    rw [Nat.testBit_or, Nat.testBit_mod_two_pow, Nat.testBit_div_two_pow, Nat.testBit_mul_two_pow]
    by_cases hi : i < 64
    · by_cases h1 : 8 * (k % 8) ≤ i
      · have h2 : 8 * k ≤ i + 64 * j := by omega
        have h3 : i + 64 * j - 8 * k = i - 8 * (k % 8) := by omega
        simp [hi, h1, h2, h3]
      · have h2 : ¬ 8 * k ≤ i + 64 * j := by omega
        simp [hi, h1, h2]
    · have h3 := hbig (i - 8 * (k % 8)) (by omega)
      simp [hi, h3]
  · rename_i hj
    rw [Nat.testBit_mod_two_pow, Nat.testBit_div_two_pow]
    by_cases hi : i < 64
    · by_cases h2 : 8 * k ≤ i + 64 * j
      · have h3 := hbig (i + 64 * j - 8 * k) (by omega)
        simp [h3]
      · simp [h2]
    · simp [hi]

theorem wl_byte (M n b k : Nat) (hb : b < 256) : (wl M n).set (k / 8) ((wl M n).getD (k / 8) 0 ||| b * 2 ^ (8 * (k % 8))) = wl (M ||| b * 2 ^ (8 * k)) n := by
  refine List.ext_getElem (by simp [wl]) fun j h1 h2 => ?_
  have hj : j < n := by simpa [wl] using h2
  rw [List.getElem_set]
  have e : (wl (M ||| b * 2 ^ (8 * k)) n)[j] = (M ||| b * 2 ^ (8 * k)) / 2 ^ (64 * j) % 2 ^ 64 := by simp [wl]
  rw [e, word_byte _ _ _ _ hb]
  by_cases hq : k / 8 = j
  · rw [if_pos hq, if_pos hq.symm, wl_getD _ _ _ (by omega), hq]
  · rw [if_neg hq, if_neg (fun h => hq h.symm)]
    simp [wl]

theorem numLE_byte (p : List Nat) (k : Nat) (hk : k < p.length) (h : ∀ b ∈ p, b < 256) : numLE p / 2 ^ (8 * k) % 256 = p.getD k 0 := by
  have hl : (p.take k).length = k := by simp; omega
  have hlt := numLE_lt (p.take k) fun b hb => h b (List.mem_of_mem_take hb)
  rw [hl] at hlt
  have e : numLE p = numLE (p.take k) + 2 ^ (8 * k) * numLE (p.drop k) := by
    conv => lhs; rw [← List.take_append_drop k p, numLE_append, hl]
  rw [e, Nat.add_mul_div_left _ _ (Nat.pow_pos (by omega)), Nat.div_eq_of_lt hlt, Nat.zero_add, List.drop_eq_getElem_cons hk, numLE]
  have hb := h p[k] (List.getElem_mem _)
  rw [Nat.add_mul_mod_self_left, Nat.mod_eq_of_lt hb]
  simp [List.getD, hk]

/-- Bytes without a zero byte at the end are those of their number. -/
theorem bytesOf_numLE (p : List Nat) (h : ∀ b ∈ p, b < 256) (hl : p.length = 0 ∨ p.getD (p.length - 1) 0 ≠ 0) : bytesOf (numLE p) = p := by
  by_cases h0 : p.length = 0
  · have : p = [] := List.eq_nil_of_length_eq_zero h0
    subst this
    rfl
  · have hlast := hl.resolve_left h0
    have hb := numLE_byte p (p.length - 1) (by omega) h
    rw [← hb] at hlast
    have hlt := numLE_lt p h
    have hge : 2 ^ (8 * (p.length - 1)) ≤ numLE p := by
      rcases Nat.lt_or_ge (numLE p) (2 ^ (8 * (p.length - 1))) with hh | hh
      · rw [Nat.div_eq_of_lt hh] at hlast; exact absurd rfl hlast
      · exact hh
    have hne : numLE p ≠ 0 := by
      have : 0 < 2 ^ (8 * (p.length - 1)) := Nat.pow_pos (by omega)
      omega
    have l1 : Nat.log2 (numLE p) < 8 * p.length := (Nat.log2_lt hne).2 hlt
    have l2 : 8 * (p.length - 1) ≤ Nat.log2 (numLE p) := (Nat.le_log2 hne).2 hge
    rw [bytesOf, if_neg hne, show Nat.log2 (numLE p) / 8 + 1 = p.length by omega]
    refine List.ext_getElem (by simp [bl8]) fun i h1 h2 => ?_
    have := numLE_byte p i h2 h
    simp only [bl8, List.getElem_map, List.getElem_range]
    rw [this]
    simp [List.getD, h2]

theorem numLE_small (p : List Nat) (h : ∀ b ∈ p, b < 256) (hl : p.length ≤ 512) : Small (numLE p) := by
  intro e he
  exact Nat.lt_of_lt_of_le (numLE_lt p h) (Nat.pow_le_pow_right (Nat.succ_pos 1) (by omega))

end Go.Proofs.YtjglnpijngdpkaaDoor
/-
  bits.Read: the set with an encoding.
-/
namespace Go.Proofs.YtjglnpijngdpkaaDoor
open Go.RowKit

/-- Bytes that are those of no set. -/
def BadSet (p : List Nat) : Prop := 512 < p.length ∨ (0 < p.length ∧ p.getD (p.length - 1) 0 = 0)

instance (p : List Nat) : Decidable (BadSet p) := by unfold BadSet; infer_instance

theorem wv_nil (n : Nat) : (madeCells #[Value.int .u64 0] n).toList = wv (wl 0 n) := by rw [wl_zero]; exact wv_zero n

/-- What 'pack' gives of the words of M is the set M. -/
theorem setv_of_pack {S : Nat → Prop} {w1 w2 : World} {g M n : Nat} {hv : Value} (hpr : PackRes w1 g (wl M n) hv) (hn : 1 ≤ n) (hM : M < 2 ^ (64 * n)) (hk : Kept S w1 w2) (hS : ¬ S g) :
    SetV w2 (.agg #[.int .u64 ((wl M n).getD 0 0 : Nat), hv]) M := by
  obtain ⟨t, ht1, ht2, ht3, ht4⟩ := hpr.ex
  have hlo : (wl M n).getD 0 0 = M % 2 ^ 64 := by
    rw [wl_getD _ _ _ (by omega)]
    simp
  have ht := ht1
  rw [wl_drop1] at ht
  have hM2 : M / 2 ^ 64 < 2 ^ (64 * (n - 1)) := by
    refine Nat.div_lt_of_lt_mul ?_
    rw [← Nat.pow_add, show 64 + 64 * (n - 1) = 64 * n by omega]
    exact hM
  have hcan := ht.canon hM2
  rw [← wl_drop1] at hcan
  refine ⟨⟨_, _, by rw [hlo], ht2.kept hk ?_, hcan, ?_⟩⟩
  · intro k hk' e
    rcases ht4 with h4 | h4
    · rw [h4] at hk'; cases hk'
    · rw [h4] at hk'; cases hk'; exact hS e
  · intro hnil
    refine ht3 ?_
    have := congrArg List.length hnil
    have hle := ht1.le
    simp at this hle
    omega

theorem pack_form {w : World} {g : Nat} {ws : List Nat} {hv : Value} (h : PackRes w g ws hv) : (∃ a n c, hv = .slice a n c) ∧ (hv.ownBlock = none ∨ hv.ownBlock = some g) := by
  obtain ⟨t, _, h2, _, h4⟩ := h.ex
  obtain ⟨a, c, e⟩ := h2.form
  exact ⟨⟨_, _, _, e⟩, h4⟩

theorem setv_zero (w : World) : SetV w (.agg #[.int .u64 0, .slice none 0 0]) 0 :=
  ⟨⟨_, [], rfl, Or.inl ⟨rfl, rfl⟩, ⟨rfl, by simp, Or.inl rfl⟩, fun _ => rfl⟩⟩

end Go.Proofs.YtjglnpijngdpkaaDoor
/-
  bits.Of of no members, and of any list; members of bytes are small.
-/
namespace Go.Proofs.YtjglnpijngdpkaaDoor
open Go.RowKit

theorem setv_none (w : World) : SetV w (.agg #[.int .u64 0, .slice none 0 0]) 0 := ⟨⟨_, [], rfl, Or.inl ⟨rfl, rfl⟩, ⟨rfl, by simp, Or.inl rfl⟩, fun _ => rfl⟩⟩

set_option maxRecDepth 100000 in
set_option maxHeartbeats 1600000 in
theorem of_nil (w : World) :
    Calls Tryd.prog 31 #[.slice none 0 0] w fun e w' => e = .returned (.agg #[.int .u64 0, .slice none 0 0]) ∧ Kept (fun _ => False) w w' := by
  obtain ⟨i0, hi, hz0, hz1, hz2⟩ := info_parts info_u64
  go_enter Tryd.func31, Tryd.ntmps31
  go_wp2_with fail
  refine (greatestOf_any _ _ [] (Or.inl ⟨rfl, rfl⟩)).mono ?_
  rintro e w' ⟨rfl, rfl⟩
  rw [show gOf [] = -1 from rfl]
  go_wp2_with fail
  refine (wordsFor_any _ _ (by omega) (by omega)).mono ?_
  rintro e w' ⟨rfl, rfl⟩
  rw [show ((-1 : Int) + 64) / 64 = ((0 : Nat) : Int) by omega]
  go_wp2_with (refine wpList_make_full _ rfl _ _ _ rfl w.heap.size 54 i0 _ 1 Tryd.underlying55 hi hz0 hz1 _ _ _ _ 0 rfl rfl rfl rfl (by omega) (by unfold maxLen; omega) (by simp) ?_)
  intro wA hownA hgrowA
  have hkA : Kept (fun _ => False) w wA := (Kept.alloc (fun _ => False) w _).trans (Kept.ofGrown (S := fun _ => False) hgrowA (fun k e => by cases e)) (fun _ _ h => h) (fun _ _ h => h)
  have r0 : wA.cell? ⟨w.heap.size, 0, none⟩ = some (.int .u64 0) := (hgrowA.cell_far ⟨w.heap.size, 0, none⟩ (by simp) (by simp)).trans (by go_simp)
  have r1 : wA.cell? ⟨w.heap.size, 1, none⟩ = some (.slice none 0 0) := (hgrowA.cell_far ⟨w.heap.size, 1, none⟩ (by simp) (by simp)).trans (by go_simp)
  have rf : ∀ i, wA.frozen? ⟨w.heap.size, i, none⟩ = false := fun i => (hgrowA.frozen_far ⟨w.heap.size, i, none⟩ (by simp) (by simp)).trans (by go_simp)
  have hAs : w.heap.size < wA.heap.size := Nat.lt_of_lt_of_le (by simp) hgrowA.size
  have RF := Lib.hid rf; clear rf
  have R0 := Lib.hid r0; clear r0
  have R1 := Lib.hid r1; clear r1
  clear hownA hgrowA
  go_wp2_with fail
  go_loopw [12] (fun iv wr => iv = .int .i64 0 ∧ wr = wA) (fun _ _ => 0)
  case atStart => exact ⟨rfl, rfl⟩
  case round =>
    obtain ⟨rfl, rfl⟩ := hrel
    go_wp2_with fail
    refine (pack_nil wr _ 0).mono ?_
    rintro e w1 ⟨rfl, hk1⟩
    have c0 := (hk1.cell (p := ⟨w.heap.size, 0, none⟩) (by simp; omega) (by simp)).trans R0.out
    have c1 := (hk1.cell (p := ⟨w.heap.size, 1, none⟩) (by simp; omega) (by simp)).trans R1.out
    have f0 := (hk1.frozen (p := ⟨w.heap.size, 0, none⟩) (by simp; omega) (by simp)).trans (RF.out 0)
    have f1 := (hk1.frozen (p := ⟨w.heap.size, 1, none⟩) (by simp; omega) (by simp)).trans (RF.out 1)
    have hkw := hkA
    go_wp2
    refine bodyPost_ret (v := .agg #[.int .u64 0, .slice none 0 0]) (by simp [results, Tryd.results31, go_sem, c0, c1]) rfl ⟨rfl, ?_⟩
    exact (hkw.trans hk1 (fun _ _ h => h) (fun _ _ h => h)).trans ((Kept.setCell (fun k => k = w.heap.size) _ ⟨w.heap.size, 0, none⟩ _ rfl).trans (Kept.setCell (fun k => k = w.heap.size) _ ⟨w.heap.size, 1, none⟩ _ rfl) (fun _ _ h => h) (fun _ _ h => h)) (fun _ _ h => h) (fun i hi e => by omega)

/-- 'bits.Of' of any list. -/
theorem of_any (w : World) (v : Value) (xs : List Int) (h : Ints w v xs) :
    Calls Tryd.prog 31 #[v] w fun e w' => ∃ v, e = .returned v ∧ SetV w' v (maskOf xs) ∧ (∀ k, setBlk v k → w.heap.size ≤ k) ∧ Kept (fun _ => False) w w' := by
  rcases h with ⟨rfl, rfl⟩ | ⟨g, off, cap, rfl, h1, h2, h3, h4⟩
  · refine (of_nil w).mono ?_
    rintro e w' ⟨rfl, hk⟩
    refine ⟨_, rfl, setv_none w', ?_, hk⟩
    rintro k ⟨lo, hv, he, hb⟩
    cases he
    simp [Value.ownBlock] at hb
  · exact of_at w g off cap xs h1 h2 h3 h4

end Go.Proofs.YtjglnpijngdpkaaDoor
