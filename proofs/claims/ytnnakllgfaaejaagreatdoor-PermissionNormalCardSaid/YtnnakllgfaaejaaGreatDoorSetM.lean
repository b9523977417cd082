/-
  Plain words on sets as numbers (bit i is set exactly if i is a member), their words and bytes. No program is named here.
-/
import Derived.Lib.BitFns
import Derived.Lib.ItoaNum
namespace Go.Proofs.YtnnakllgfaaejaaGreatDoor

/-- The first n words of a number. -/
def wl (M n : Nat) : List Nat := (List.range n).map fun k => M / 2 ^ (64 * k) % 2 ^ 64
/-- The first n bytes of a number. -/
def bl8 (M n : Nat) : List Nat := (List.range n).map fun k => M / 2 ^ (8 * k) % 256
def addM (M : Nat) (i : Int) : Nat := if 0 ≤ i ∧ i ≤ 4095 then M ||| 2 ^ i.toNat else M
/-- The set of a list's possible members. -/
def maskOf (l : List Int) : Nat := l.foldl addM 0
/-- The greatest possible member of a list, or -1. -/
def gOf (l : List Int) : Int := l.foldl (fun m i => if 0 ≤ i ∧ i ≤ 4095 then max m i else m) (-1)

theorem wl_length (M n : Nat) : (wl M n).length = n := by simp [wl]
theorem wl_getD (M n k : Nat) (h : k < n) : (wl M n).getD k 0 = M / 2 ^ (64 * k) % 2 ^ 64 := by simp [wl, List.getD, h]
theorem wl_zero (n : Nat) : wl 0 n = List.replicate n 0 := by
  refine List.ext_getElem (by simp [wl]) fun i h1 h2 => ?_
  simp [wl]
theorem bl8_length (M n : Nat) : (bl8 M n).length = n := by simp [bl8]
theorem wl_take (M n t : Nat) (h : t ≤ n) : (wl M n).take t = wl M t := by
  refine List.ext_getElem (by simp [wl, h]) fun i h1 h2 => ?_
  simp [wl]
theorem wl_drop1 (M n : Nat) : (wl M n).drop 1 = wl (M / 2 ^ 64) (n - 1) := by
  refine List.ext_getElem (by simp [wl]) fun i h1 h2 => ?_
  simp only [wl, List.getElem_drop, List.getElem_map, List.getElem_range, Nat.div_div_eq_div_mul, ← Nat.pow_add]
  rw [show 64 * (1 + i) = 64 + 64 * i by omega]

theorem word_or (M i k : Nat) : (M ||| 2 ^ i) / 2 ^ (64 * k) % 2 ^ 64 = if k = i / 64 then (M / 2 ^ (64 * k) % 2 ^ 64) ||| 2 ^ (i % 64) else M / 2 ^ (64 * k) % 2 ^ 64 := by
  refine Nat.eq_of_testBit_eq fun j => ?_
  rw [Nat.testBit_mod_two_pow, Nat.testBit_div_two_pow, Nat.testBit_or, Nat.testBit_two_pow]
  split
  · rename_i hk
    rw [Nat.testBit_or, Nat.testBit_mod_two_pow, Nat.testBit_div_two_pow, Nat.testBit_two_pow]
    by_cases hj : j < 64
    · have : (i = j + 64 * k) ↔ (i % 64 = j) := by omega
      simp [hj, this]
    · have : ¬ (i % 64 = j) := by omega
      simp [hj, this]
  · rename_i hk
    rw [Nat.testBit_mod_two_pow, Nat.testBit_div_two_pow]
    by_cases hj : j < 64
    · have : ¬ (i = j + 64 * k) := by omega
      simp [this]
    · simp [hj]

theorem wl_or (M n i : Nat) (_h : i / 64 < n) : (wl M n).set (i / 64) ((wl M n).getD (i / 64) 0 ||| 2 ^ (i % 64)) = wl (M ||| 2 ^ i) n := by
  refine List.ext_getElem (by simp [wl]) fun k h1 h2 => ?_
  have hk : k < n := by simpa [wl] using h2
  rw [List.getElem_set]
  have e : (wl (M ||| 2 ^ i) n)[k] = (M ||| 2 ^ i) / 2 ^ (64 * k) % 2 ^ 64 := by simp [wl]
  rw [e, word_or]
  by_cases hq : i / 64 = k
  · rw [if_pos hq, if_pos hq.symm, wl_getD _ _ _ (by omega), hq]
  · rw [if_neg hq, if_neg (fun h => hq h.symm)]
    simp [wl]

theorem maskOf_take (l : List Int) (k : Nat) (h : k < l.length) : maskOf (l.take (k + 1)) = addM (maskOf (l.take k)) (l.getD k 0) := by
  rw [List.take_succ_eq_append_getElem h, maskOf, List.foldl_append]
  simp [maskOf, List.getD, h]
theorem gOf_take (l : List Int) (k : Nat) (h : k < l.length) : gOf (l.take (k + 1)) = if 0 ≤ l.getD k 0 ∧ l.getD k 0 ≤ 4095 then max (gOf (l.take k)) (l.getD k 0) else gOf (l.take k) := by
  rw [List.take_succ_eq_append_getElem h, gOf, List.foldl_append]
  simp [gOf, List.getD, h]

theorem foldl_gOf (l : List Int) : ∀ m : Int, -1 ≤ m → m ≤ 4095 →
    -1 ≤ l.foldl (fun m i => if 0 ≤ i ∧ i ≤ 4095 then max m i else m) m ∧ l.foldl (fun m i => if 0 ≤ i ∧ i ≤ 4095 then max m i else m) m ≤ 4095 ∧ m ≤ l.foldl (fun m i => if 0 ≤ i ∧ i ≤ 4095 then max m i else m) m ∧
    ∀ i ∈ l, 0 ≤ i ∧ i ≤ 4095 → i ≤ l.foldl (fun m i => if 0 ≤ i ∧ i ≤ 4095 then max m i else m) m := by
  induction l with
  | nil => intro m h1 h2; simp; omega
  | cons x t ih =>
    intro m h1 h2
    simp only [List.foldl_cons]
    by_cases hx : 0 ≤ x ∧ x ≤ 4095
    · rw [if_pos hx]
      have ⟨a, b, c, d⟩ := ih (max m x) (by omega) (by omega)
      refine ⟨a, b, by omega, fun i hi hp => ?_⟩
      rcases List.mem_cons.1 hi with rfl | hi
      · omega
      · exact d i hi hp
    · rw [if_neg hx]
      have ⟨a, b, c, d⟩ := ih m h1 h2
      refine ⟨a, b, c, fun i hi hp => ?_⟩
      rcases List.mem_cons.1 hi with rfl | hi
      · exact absurd hp hx
      · exact d i hi hp

theorem gOf_bounds (l : List Int) : -1 ≤ gOf l ∧ gOf l ≤ 4095 := by
  have ⟨a, b, _, _⟩ := foldl_gOf l (-1) (by omega) (by omega)
  exact ⟨a, b⟩
theorem gOf_ge (l : List Int) (i : Int) (hi : i ∈ l) (h0 : 0 ≤ i) (h1 : i ≤ 4095) : i ≤ gOf l := by
  have ⟨_, _, _, d⟩ := foldl_gOf l (-1) (by omega) (by omega)
  exact d i hi ⟨h0, h1⟩

theorem mask_lt_fold (n : Nat) (l : List Int) : ∀ M : Nat, M < 2 ^ (64 * n) → (∀ i ∈ l, 0 ≤ i → i ≤ 4095 → i.toNat / 64 < n) → l.foldl addM M < 2 ^ (64 * n) := by
  induction l with
  | nil => intro M h _; simpa using h
  | cons x t ih =>
    intro M h hl
    rw [List.foldl_cons]
    refine ih _ ?_ fun i hi => hl i (List.mem_cons_of_mem _ hi)
    unfold addM
    split
    · rename_i hx
      have := hl x List.mem_cons_self hx.1 hx.2
      exact Nat.or_lt_two_pow h (Nat.pow_lt_pow_right (by omega) (by omega))
    · exact h

/-- A list's set has room in as many words as its greatest member asks for. -/
theorem mask_lt (l : List Int) : maskOf l < 2 ^ (64 * ((gOf l + 64) / 64).toNat) := by
  have hb := gOf_bounds l
  refine mask_lt_fold _ l 0 (Nat.pow_pos (by omega)) fun i hi h0 h1 => ?_
  have := gOf_ge l i hi h0 h1
  omega

/-- The words hs are those of M, the last one not 0. -/
structure Canon (hs : List Nat) (M : Nat) : Prop where
  eq : hs = wl M hs.length
  lt : M < 2 ^ (64 * hs.length)
  last : hs.length = 0 ∨ M / 2 ^ (64 * (hs.length - 1)) ≠ 0

theorem zero_above (M m t : Nat) (hM : M < 2 ^ (64 * m)) (hz : ∀ i, t ≤ i → i < m → M / 2 ^ (64 * i) % 2 ^ 64 = 0) (ht : t ≤ m) : M < 2 ^ (64 * t) := by
  obtain ⟨d, rfl⟩ : ∃ d, m = t + d := ⟨m - t, by omega⟩
  clear ht
  induction d with
  | zero => simpa using hM
  | succ d ih =>
    refine ih ?_ fun i h1 h2 => hz i h1 (by omega)
    have h0 := hz (t + d) (by omega) (by omega)
    have e : 2 ^ (64 * (t + (d + 1))) = 2 ^ (64 * (t + d)) * 2 ^ 64 := by rw [← Nat.pow_add]; congr 1
    rw [e] at hM
    have hp : 0 < 2 ^ (64 * (t + d)) := Nat.pow_pos (by omega)
    have h2 : M / 2 ^ (64 * (t + d)) < 2 ^ 64 := Nat.div_lt_of_lt_mul hM
    rw [Nat.mod_eq_of_lt h2] at h0
    have := Nat.div_eq_zero_iff.1 h0
    omega

/-- The set is empty exactly if its number is 0. -/
theorem Canon.nil {hs : List Nat} {M : Nat} (h : Canon hs M) : hs.length = 0 ↔ M = 0 := by
  constructor
  · intro e; have := h.lt; rw [e] at this; simpa using this
  · rintro rfl
    rcases h.last with e | e
    · exact e
    · simp at e

/-- A set's word number k, of its low word and the others. -/
theorem wd_word (M : Nat) (hs : List Nat) (h : Canon hs (M / 2 ^ 64)) (k : Nat) : (if k = 0 then M % 2 ^ 64 else hs.getD (k - 1) 0) = M / 2 ^ (64 * k) % 2 ^ 64 := by
  by_cases h0 : k = 0
  · subst h0; simp
  · rw [if_neg h0]
    have e : M / 2 ^ (64 * k) = M / 2 ^ 64 / 2 ^ (64 * (k - 1)) := by
      rw [Nat.div_div_eq_div_mul, ← Nat.pow_add]; congr 2; omega
    rw [e]
    by_cases hk : k - 1 < hs.length
    · rw [h.eq, wl_getD _ _ _ hk]
    · rw [show hs.getD (k - 1) 0 = 0 by simp [List.getD, List.getElem?_eq_none (show hs.length ≤ k - 1 by omega)]]
      have : M / 2 ^ 64 < 2 ^ (64 * (k - 1)) := Nat.lt_of_lt_of_le h.lt (Nat.pow_le_pow_right (by omega) (by omega))
      rw [Nat.div_eq_of_lt this]

/-- The top word, and the greatest member. -/
theorem top_eq (M : Nat) (hs : List Nat) (h : Canon hs (M / 2 ^ 64)) (h0 : M ≠ 0) (y : Nat) (hy : y = if hs.length = 0 then M % 2 ^ 64 else hs.getD (hs.length - 1) 0) :
    1 ≤ Lib.bitLen y ∧ Lib.bitLen y ≤ 64 ∧ y < 2 ^ 64 ∧ 64 * hs.length + Lib.bitLen y - 1 = Nat.log2 M := by
  rw [wd_word M hs h hs.length] at hy
  have hlt : M < 2 ^ (64 * hs.length) * 2 ^ 64 := by
    have := h.lt
    rw [Nat.mul_comm]
    exact (Nat.div_lt_iff_lt_mul (Nat.pow_pos (by omega))).1 this |> fun e => by rw [Nat.mul_comm]; exact e
  have hp : 0 < 2 ^ (64 * hs.length) := Nat.pow_pos (by omega)
  have hy1 : M / 2 ^ (64 * hs.length) < 2 ^ 64 := Nat.div_lt_of_lt_mul hlt
  rw [Nat.mod_eq_of_lt hy1] at hy
  have hy0 : y ≠ 0 := by
    rw [hy]
    rcases h.last with e | e
    · rw [e]; simpa using h0
    · intro e2
      refine e ?_
      by_cases h1 : hs.length = 0
      · have := h.nil.1 h1
        rw [this]; simp
      · rw [Nat.div_div_eq_div_mul, ← Nat.pow_add, show 64 + 64 * (hs.length - 1) = 64 * hs.length by omega]; exact e2
  have ⟨b1, b2, b3⟩ := Lib.bitLenAux_bounds 64 y (by rw [hy]; exact hy1) hy0
  have b4 : Lib.bitLen y ≤ 64 := Lib.bitLen_le y 64 (by omega) (by rw [hy]; exact hy1)
  change 1 ≤ Lib.bitLen y at b1
  change 2 ^ (Lib.bitLen y - 1) ≤ y at b2
  change y < 2 ^ Lib.bitLen y at b3
  refine ⟨b1, b4, by rw [hy]; exact hy1, ?_⟩
  refine ((Nat.log2_eq_iff h0).2 ⟨?_, ?_⟩).symm
  · rw [show 64 * hs.length + Lib.bitLen y - 1 = 64 * hs.length + (Lib.bitLen y - 1) by omega, Nat.pow_add]
    refine Nat.le_trans (Nat.mul_le_mul_left _ b2) ?_
    rw [hy]; exact Nat.mul_div_le _ _
  · rw [show 64 * hs.length + Lib.bitLen y - 1 + 1 = 64 * hs.length + Lib.bitLen y by omega, Nat.pow_add]
    have b3' : M / 2 ^ (64 * hs.length) < 2 ^ Lib.bitLen y := by rw [← hy]; exact b3
    exact Nat.lt_of_lt_of_le (Nat.lt_mul_of_div_lt (Nat.lt_succ_self _) hp) (by rw [Nat.mul_comm]; exact Nat.mul_le_mul_left _ b3')

/-- A byte of a word is a byte of the set. -/
theorem byte_word (M k : Nat) : M / 2 ^ (64 * (k / 8)) % 2 ^ 64 / 2 ^ (8 * (k % 8)) % 256 = M / 2 ^ (8 * k) % 256 := by
  rw [show (256 : Nat) = 2 ^ 8 from rfl]
  refine Nat.eq_of_testBit_eq fun j => ?_
  rw [Nat.testBit_mod_two_pow, Nat.testBit_div_two_pow, Nat.testBit_mod_two_pow, Nat.testBit_div_two_pow, Nat.testBit_mod_two_pow, Nat.testBit_div_two_pow]
  by_cases hj : j < 8
  · have h1 : j + 8 * (k % 8) < 64 := by omega
    have h2 : j + 8 * (k % 8) + 64 * (k / 8) = j + 8 * k := by omega
    simp [hj, h1, h2]
  · simp [hj]

theorem bl8_getD (M n k : Nat) (h : k < n) : (bl8 M n).getD k 0 = M / 2 ^ (8 * k) % 256 := by simp [bl8, List.getD, h]

theorem bl8_set (M n k : Nat) (h : k < n) : (bl8 M k ++ List.replicate (n - k) 0).set k (M / 2 ^ (8 * k) % 256) = bl8 M (k + 1) ++ List.replicate (n - (k + 1)) 0 := by
  refine List.ext_getElem (by simp [bl8]; omega) fun i h1 h2 => ?_
  rw [List.getElem_set]
  by_cases hik : k = i
  · subst hik
    rw [if_pos rfl, List.getElem_append_left (by simp [bl8])]
    simp [bl8]
  · rw [if_neg hik]
    by_cases hlt : i < k
    · rw [List.getElem_append_left (by simpa [bl8] using hlt), List.getElem_append_left (by simp [bl8]; omega)]
      simp [bl8]
    · rw [List.getElem_append_right (by simp [bl8]; omega), List.getElem_append_right (by simp [bl8]; omega)]
      simp

/-- The bytes of a set. -/
def bytesOf (M : Nat) : List Nat := if M = 0 then [] else bl8 M (Nat.log2 M / 8 + 1)

theorem bytesOf_byte (M : Nat) : ∀ b ∈ bytesOf M, b < 256 := by
  unfold bytesOf
  split
  · simp
  · intro b hb
    simp only [bl8, List.mem_map] at hb
    obtain ⟨i, _, rfl⟩ := hb
    omega

/-- No member is above 4095. -/
def Small (M : Nat) : Prop := ∀ e, 4096 ≤ e → M < 2 ^ e

theorem maskOf_small (l : List Int) : Small (maskOf l) := by
  intro e he
  have h1 := mask_lt l
  have hb := gOf_bounds l
  have h2 : 64 * ((gOf l + 64) / 64).toNat ≤ e := by omega
  exact Nat.lt_of_lt_of_le h1 (Nat.pow_le_pow_right (Nat.succ_pos 1) h2)

theorem log2_small {M : Nat} (h : Small M) (h0 : M ≠ 0) : Nat.log2 M < 4096 := by
  obtain ⟨e, he⟩ : ∃ e : Nat, e = 4096 := ⟨_, rfl⟩
  rw [← he]
  exact (Nat.log2_lt h0).2 (h e (by omega))

theorem Canon.small {hs : List Nat} {M : Nat} (h : Canon hs (M / 2 ^ 64)) (hM : Small M) : hs.length ≤ 63 := by
  rcases h.last with e | e
  · rw [e]; exact Nat.zero_le _
  · by_cases hlt : hs.length ≤ 63
    · exact hlt
    · exfalso
      refine e ?_
      rw [Nat.div_div_eq_div_mul, ← Nat.pow_add]
      have h4 : 4096 ≤ 64 + 64 * (hs.length - 1) := by omega
      exact Nat.div_eq_of_lt (hM _ h4)

end Go.Proofs.YtnnakllgfaaejaaGreatDoor
