/-
  Plain words: what the library computes of a word is the number of its bits; a set's Len is the number of its members. No program is named here.
-/
import Derived.Test.YteaagllpkcpedaaDoorBList
namespace Go.Proofs.YteaagllpkcpedaaDoor

/-- How many of the bits below n are set. -/
def cnt (x n : Nat) : Nat := ((List.range n).filter x.testBit).length

/-- A mask that is a byte, again and again. -/
def mkB (c : Nat) : Nat → Nat
  | 0 => 0
  | n + 1 => c + 256 * mkB c n
def byteMap (f : Nat → Nat) : Nat → Nat → Nat
  | 0, _ => 0
  | n + 1, x => f (x % 256) + 256 * byteMap f n (x / 256)

theorem and_byte (h l c m : Nat) (hl : l < 256) (hc : c < 256) : (l + 256 * h) &&& (c + 256 * m) = (l &&& c) + 256 * (h &&& m) := by
  have hlc : l &&& c < 2 ^ 8 := Nat.lt_of_le_of_lt Nat.and_le_left hl
  rw [show l + 256 * h = 2 ^ 8 * h + l by omega, show c + 256 * m = 2 ^ 8 * m + c by omega, show (l &&& c) + 256 * (h &&& m) = 2 ^ 8 * (h &&& m) + (l &&& c) by omega]
  refine Nat.eq_of_testBit_eq fun i => ?_
  rw [Nat.testBit_and, Nat.testBit_two_pow_mul_add _ hl, Nat.testBit_two_pow_mul_add _ hc, Nat.testBit_two_pow_mul_add _ hlc]
  by_cases hi : i < 8
  · simp [hi, Nat.testBit_and]
  · simp [hi, Nat.testBit_and]

def Q1 (l : Nat) : Nat := (l / 2 &&& 85) + (l &&& 85)
def Q2 (l : Nat) : Nat := (l / 4 &&& 51) + (l &&& 51)
def Q3 (l : Nat) : Nat := (l / 16 + l) &&& 15
theorem Q_facts : ∀ l : Fin 256, Q1 l.val < 256 ∧ Q2 (Q1 l.val) % 16 ≤ 4 ∧ Q2 (Q1 l.val) / 16 ≤ 4 ∧ Q3 (Q2 (Q1 l.val)) = cnt l.val 8 ∧ cnt l.val 8 ≤ 8 := by decide +kernel
theorem Q1_lt {l : Nat} (h : l < 256) : Q1 l < 256 := (Q_facts ⟨l, h⟩).1
theorem low85 : ∀ (p : Fin 128) (q : Fin 2), (p.val + 128 * q.val) &&& 85 = p.val &&& 85 := by decide +kernel
theorem low51 : ∀ (p : Fin 64) (q : Fin 4), (p.val + 64 * q.val) &&& 51 = p.val &&& 51 := by decide +kernel

theorem q1_map : ∀ (n x : Nat), x < 256 ^ n → (x / 2 &&& mkB 85 n) + (x &&& mkB 85 n) = byteMap Q1 n x
  | 0, x, h => by simp [mkB, byteMap]
  | n + 1, x, h => by
    have ih := q1_map n (x / 256) (Nat.div_lt_of_lt_mul (by rw [Nat.pow_succ, Nat.mul_comm] at h; exact h))
    have e : x = x % 256 + 256 * (x / 256) := by omega
    have e2 : x / 2 = (x % 256 / 2 + 128 * (x / 256 % 2)) + 256 * (x / 256 / 2) := by omega
    have hl : x % 256 / 2 + 128 * (x / 256 % 2) < 256 := by omega
    have h85 := low85 ⟨x % 256 / 2, by omega⟩ ⟨x / 256 % 2, by omega⟩
    simp only at h85
    have a1 := and_byte (x / 256 / 2) _ 85 (mkB 85 n) hl (by omega)
    have a2 := and_byte (x / 256) (x % 256) 85 (mkB 85 n) (by omega) (by omega)
    rw [← e2, h85] at a1
    rw [← e] at a2
    simp only [mkB, byteMap]
    rw [a1, a2, ← ih]
    simp only [Q1]
    omega
theorem q2_map : ∀ (n x : Nat), x < 256 ^ n → (x / 4 &&& mkB 51 n) + (x &&& mkB 51 n) = byteMap Q2 n x
  | 0, x, h => by simp [mkB, byteMap]
  | n + 1, x, h => by
    have ih := q2_map n (x / 256) (Nat.div_lt_of_lt_mul (by rw [Nat.pow_succ, Nat.mul_comm] at h; exact h))
    have e : x = x % 256 + 256 * (x / 256) := by omega
    have e2 : x / 4 = (x % 256 / 4 + 64 * (x / 256 % 4)) + 256 * (x / 256 / 4) := by omega
    have hl : x % 256 / 4 + 64 * (x / 256 % 4) < 256 := by omega
    have h51 := low51 ⟨x % 256 / 4, by omega⟩ ⟨x / 256 % 4, by omega⟩
    simp only at h51
    have a1 := and_byte (x / 256 / 4) _ 51 (mkB 51 n) hl (by omega)
    have a2 := and_byte (x / 256) (x % 256) 51 (mkB 51 n) (by omega) (by omega)
    rw [← e2, h51] at a1
    rw [← e] at a2
    simp only [mkB, byteMap]
    rw [a1, a2, ← ih]
    simp only [Q2]
    omega
theorem byteMap_lt (f : Nat → Nat) (hf : ∀ l, l < 256 → f l < 256) : ∀ n x, byteMap f n x < 256 ^ n
  | 0, x => by simp [byteMap]
  | n + 1, x => by
    have ih := byteMap_lt f hf n (x / 256)
    have := hf (x % 256) (by omega)
    simp only [byteMap]
    rw [Nat.pow_succ]
    omega
theorem byteMap_comp (f g : Nat → Nat) (hf : ∀ l, l < 256 → f l < 256) : ∀ n x, byteMap g n (byteMap f n x) = byteMap (fun l => g (f l)) n x
  | 0, x => by simp [byteMap]
  | n + 1, x => by
    have ih := byteMap_comp f g hf n (x / 256)
    have := hf (x % 256) (by omega)
    simp only [byteMap]
    rw [← ih]
    congr 2
    · omega
    · congr 2; omega
theorem mod15 (a : Nat) : a &&& 15 = a % 16 := Nat.and_two_pow_sub_one_eq_mod a 4
/-- The third step, of bytes whose halves are at most 4. -/
theorem q3_map (f : Nat → Nat) (hf : ∀ l, l < 256 → f l < 256 ∧ f l % 16 ≤ 4 ∧ f l / 16 ≤ 4) : ∀ (n x : Nat), (byteMap f n x / 16 + byteMap f n x) &&& mkB 15 n = byteMap (fun l => Q3 (f l)) n x ∧ (byteMap f n x) % 16 ≤ 4
  | 0, x => by simp [mkB, byteMap]
  | n + 1, x => by
    have ⟨ih, ih2⟩ := q3_map f hf n (x / 256)
    have ⟨f1, f2, f3⟩ := hf (x % 256) (by omega)
    simp only [byteMap, mkB]
    generalize byteMap f n (x / 256) = h at ih ih2
    generalize f (x % 256) = l at f1 f2 f3
    refine ⟨?_, by omega⟩
    have e : (l + 256 * h) / 16 + (l + 256 * h) = (l / 16 + l + 16 * (h % 16)) + 256 * (h / 16 + h) := by omega
    rw [e, and_byte _ _ _ _ (by omega) (by omega), ih]
    simp only [Q3, mod15]
    omega

theorem cnt_add (x n : Nat) : cnt x (8 + n) = cnt (x % 256) 8 + cnt (x / 256) n := by
  unfold cnt
  rw [List.range_add, List.filter_append, List.length_append, List.filter_map, List.length_map]
  congr 2
  · refine List.filter_congr fun i hi => ?_
    have : i < 8 := by simpa using hi
    rw [show (256 : Nat) = 2 ^ 8 from rfl, Nat.testBit_mod_two_pow]
    simp [this]
  · refine List.filter_congr fun i _ => ?_
    simp only [Function.comp]
    rw [show (256 : Nat) = 2 ^ 8 from rfl, Nat.testBit_div_two_pow, Nat.add_comm]

/-- What the library computes is the number of bits. -/
theorem popS_cnt (x : Nat) (hx : x < 18446744073709551616) : popS x = cnt x 64 := by
  have h1 : pop1 x = byteMap Q1 8 x := q1_map 8 x (by simpa using hx)
  have h2 : pop2 (pop1 x) = byteMap (fun l => Q2 (Q1 l)) 8 x := by
    rw [h1, ← byteMap_comp Q1 Q2 (fun l h => Q1_lt h)]
    exact q2_map 8 _ (byteMap_lt Q1 (fun l h => Q1_lt h) 8 x)
  have h3 : pop3 (pop2 (pop1 x)) = byteMap (fun l => Q3 (Q2 (Q1 l))) 8 x := by
    rw [h2]
    exact (q3_map (fun l => Q2 (Q1 l)) (fun l h => by
      have := Q_facts ⟨l, h⟩
      simp only at this
      omega) 8 x).1
  have hc : ∀ y, cnt (y % 256) 8 = Q3 (Q2 (Q1 (y % 256))) ∧ Q3 (Q2 (Q1 (y % 256))) ≤ 8 := fun y => by
    have := Q_facts ⟨y % 256, Nat.mod_lt _ (by omega)⟩
    simp only at this
    omega
  have hsum : cnt x 64 = Q3 (Q2 (Q1 (x % 256))) + (Q3 (Q2 (Q1 (x / 256 % 256))) + (Q3 (Q2 (Q1 (x / 256 / 256 % 256))) + (Q3 (Q2 (Q1 (x / 256 / 256 / 256 % 256))) + (Q3 (Q2 (Q1 (x / 256 / 256 / 256 / 256 % 256))) + (Q3 (Q2 (Q1 (x / 256 / 256 / 256 / 256 / 256 % 256))) + (Q3 (Q2 (Q1 (x / 256 / 256 / 256 / 256 / 256 / 256 % 256))) + (Q3 (Q2 (Q1 (x / 256 / 256 / 256 / 256 / 256 / 256 / 256 % 256)))))))))) := by
    rw [show (64 : Nat) = 8 + (8 + (8 + (8 + (8 + (8 + (8 + (8 + 0))))))) from rfl]
    simp only [cnt_add, hc]
    simp [cnt]
  unfold popS
  rw [h3, hsum]
  simp only [byteMap]
  have b0 := (hc x).2
  have b1 := (hc (x / 256)).2
  have b2 := (hc (x / 256 / 256)).2
  have b3 := (hc (x / 256 / 256 / 256)).2
  have b4 := (hc (x / 256 / 256 / 256 / 256)).2
  have b5 := (hc (x / 256 / 256 / 256 / 256 / 256)).2
  have b6 := (hc (x / 256 / 256 / 256 / 256 / 256 / 256)).2
  have b7 := (hc (x / 256 / 256 / 256 / 256 / 256 / 256 / 256)).2
  generalize Q3 (Q2 (Q1 (x % 256))) = c0 at *
  generalize Q3 (Q2 (Q1 (x / 256 % 256))) = c1 at *
  generalize Q3 (Q2 (Q1 (x / 256 / 256 % 256))) = c2 at *
  generalize Q3 (Q2 (Q1 (x / 256 / 256 / 256 % 256))) = c3 at *
  generalize Q3 (Q2 (Q1 (x / 256 / 256 / 256 / 256 % 256))) = c4 at *
  generalize Q3 (Q2 (Q1 (x / 256 / 256 / 256 / 256 / 256 % 256))) = c5 at *
  generalize Q3 (Q2 (Q1 (x / 256 / 256 / 256 / 256 / 256 / 256 % 256))) = c6 at *
  generalize Q3 (Q2 (Q1 (x / 256 / 256 / 256 / 256 / 256 / 256 / 256 % 256))) = c7 at *
  clear h1 h2 h3 hc hsum hx
  rw [show (127 : Nat) = 2 ^ 7 - 1 from rfl, Nat.and_two_pow_sub_one_eq_mod]
  obtain ⟨y, hy⟩ : ∃ y, y = c0 + 256 * (c1 + 256 * (c2 + 256 * (c3 + 256 * (c4 + 256 * (c5 + 256 * (c6 + 256 * (c7 + 256 * 0))))))) := ⟨_, rfl⟩
  rw [← hy]
  obtain ⟨z, hz⟩ : ∃ z, z = y + y / 256 := ⟨_, rfl⟩
  have hz2 : z = c0 + c1 + 256 * (c1 + c2 + 256 * (c2 + c3 + 256 * (c3 + c4 + 256 * (c4 + c5 + 256 * (c5 + c6 + 256 * (c6 + c7 + 256 * c7)))))) := by omega
  rw [← hz]
  clear hz hy
  obtain ⟨u, hu⟩ : ∃ u, u = z + z / 65536 := ⟨_, rfl⟩
  have hu2 : u = c0 + c1 + c2 + c3 + 256 * (c1 + c2 + c3 + c4 + 256 * (c2 + c3 + c4 + c5 + 256 * (c3 + c4 + c5 + c6 + 256 * (c4 + c5 + c6 + c7 + 256 * (c5 + c6 + c7 + 256 * (c6 + c7 + 256 * c7)))))) := by omega
  rw [← hu]
  clear hu hz2
  have hv : u / 4294967296 = c4 + c5 + c6 + c7 + 256 * (c5 + c6 + c7 + 256 * (c6 + c7 + 256 * c7)) := by omega
  rw [hv]
  omega

theorem cnt_words (M n : Nat) : ((wl M n).map popS).sum = cnt M (64 * n) := by
  induction n with
  | zero => rfl
  | succ n ih =>
    have e : wl M (n + 1) = wl M n ++ [M / 2 ^ (64 * n) % 2 ^ 64] := by simp [wl, List.range_succ]
    rw [e, List.map_append, List.sum_append, ih]
    have h1 : popS (M / 2 ^ (64 * n) % 2 ^ 64) = cnt (M / 2 ^ (64 * n) % 2 ^ 64) 64 := popS_cnt _ (Nat.mod_lt _ (by decide))
    simp only [List.map_cons, List.map_nil, List.sum_cons, List.sum_nil, Nat.add_zero]
    rw [h1]
    unfold cnt
    rw [show 64 * (n + 1) = 64 * n + 64 by omega, List.range_add, List.filter_append, List.length_append, List.filter_map, List.length_map]
    congr 2
    refine List.filter_congr fun i hi => ?_
    have hi : i < 64 := by simpa using hi
    rw [Nat.testBit_mod_two_pow, Nat.testBit_div_two_pow]
    simp [hi, Function.comp, Nat.add_comm]

/-- The number that Len returns. -/
theorem lenS_mem {M : Nat} {hs : List Nat} (hc : Canon hs (M / 2 ^ 64)) (hl : hs.length ≤ 63) : lenS M hs = (memM M 4096).length := by
  rw [← memM_all hc hl]
  unfold lenS
  have e1 : popS (M % 2 ^ 64) = ((wl M 1).map popS).sum := by simp [wl]
  have e2 : hs = wl (M / 2 ^ 64) hs.length := hc.eq
  have e3 : wl M (1 + hs.length) = wl M 1 ++ wl (M / 2 ^ 64) hs.length := by
    rw [← List.take_append_drop 1 (wl M (1 + hs.length)), wl_take _ _ _ (by omega), wl_drop1]
    simp
  have : popS (M % 2 ^ 64) + (hs.map popS).sum = ((wl M (1 + hs.length)).map popS).sum := by
    rw [e3, List.map_append, List.sum_append, ← e1]
    congr 2
    rw [← e2]
  rw [this, cnt_words]
  simp [cnt, memM]
end Go.Proofs.YteaagllpkcpedaaDoor
