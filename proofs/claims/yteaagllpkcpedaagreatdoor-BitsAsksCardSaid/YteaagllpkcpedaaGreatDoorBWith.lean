/-
  bits.Set: With of a member (from 0 to 4095).
-/
import Derived.Test.YteaagllpkcpedaaGreatDoorBHas
import Derived.Laws.CopyOwn
namespace Go.Proofs.YteaagllpkcpedaaGreatDoor
open Go.RowKit

theorem or_same (M i : Nat) (h : M.testBit i = true) : M ||| 2 ^ i = M := by
  refine Nat.eq_of_testBit_eq fun j => ?_
  rw [Nat.testBit_or, Nat.testBit_two_pow]
  by_cases hj : i = j
  · subst hj; simp [h]
  · simp [hj]

theorem or_low_mod (M i : Nat) (h : i < 64) : (M ||| 2 ^ i) % 2 ^ 64 = M % 2 ^ 64 ||| 2 ^ i := by
  have := word_or M i 0
  rw [if_pos (by omega), Nat.mod_eq_of_lt h] at this
  simpa using this

theorem or_low_div (M i : Nat) (h : i < 64) : (M ||| 2 ^ i) / 2 ^ 64 = M / 2 ^ 64 := by
  refine Nat.eq_of_testBit_eq fun j => ?_
  rw [Nat.testBit_div_two_pow, Nat.testBit_div_two_pow, Nat.testBit_or, Nat.testBit_two_pow]
  have : ¬ i = j + 64 := by omega
  simp [this]

theorem or_high_mod (M i : Nat) (h : 64 ≤ i) : (M ||| 2 ^ i) % 2 ^ 64 = M % 2 ^ 64 := by
  have := word_or M i 0
  rw [if_neg (by omega)] at this
  simpa using this

theorem or_high_div (M i : Nat) (h : 64 ≤ i) : (M ||| 2 ^ i) / 2 ^ 64 = M / 2 ^ 64 ||| 2 ^ (i - 64) := by
  refine Nat.eq_of_testBit_eq fun j => ?_
  rw [Nat.testBit_div_two_pow, Nat.testBit_or, Nat.testBit_or, Nat.testBit_two_pow, Nat.testBit_two_pow, Nat.testBit_div_two_pow]
  have : (i = j + 64) ↔ (i - 64 = j) := by omega
  simp [this]

/-- The words with room for a further one are the number's words. -/
theorem wl_room (hs : List Nat) (M m : Nat) (h : Canon hs M) (hm : hs.length ≤ m) : hs ++ List.replicate (m - hs.length) 0 = wl M m := by
  refine List.ext_getElem (by simp [wl_length]; omega) fun i h1 h2 => ?_
  have hi : i < m := by simpa [wl_length] using h2
  have e2 : (wl M m)[i] = M / 2 ^ (64 * i) % 2 ^ 64 := by simp [wl]
  rw [e2]
  by_cases hlt : i < hs.length
  · rw [List.getElem_append_left hlt]
    have := congrArg (fun l => l.getD i 0) h.eq
    simp only [wl_getD _ _ _ hlt] at this
    rw [← this]
    simp [List.getD, hlt]
  · rw [List.getElem_append_right (by omega)]
    have hM : M < 2 ^ (64 * i) := Nat.lt_of_lt_of_le h.lt (Nat.pow_le_pow_right (by omega) (by omega))
    rw [Nat.div_eq_of_lt hM]
    simp

/-- With a further member the words are still no more than asked for. -/
theorem canon_with (hs : List Nat) (M j m : Nat) (h : Canon hs M) (hm : m = max hs.length (j / 64 + 1)) : Canon (wl (M ||| 2 ^ j) m) (M ||| 2 ^ j) := by
  have hM : M < 2 ^ (64 * m) := Nat.lt_of_lt_of_le h.lt (Nat.pow_le_pow_right (by omega) (by omega))
  refine ⟨by rw [wl_length], ?_, Or.inr ?_⟩
  · rw [wl_length]
    exact Nat.or_lt_two_pow hM (Nat.pow_lt_pow_right (by omega) (by omega))
  · rw [wl_length]
    intro h0
    have hz : ∀ x, (M ||| 2 ^ j).testBit (x + 64 * (m - 1)) = false := fun x => by
      have := congrArg (fun n => n.testBit x) h0
      simpa [Nat.testBit_div_two_pow] using this
    by_cases hj : m = j / 64 + 1
    · have := hz (j % 64)
      rw [show j % 64 + 64 * (m - 1) = j by omega, Nat.testBit_or, Nat.testBit_two_pow] at this
      simp at this
    · rcases h.last with e | e
      · omega
      · refine e (Nat.eq_of_testBit_eq fun x => ?_)
        have := hz x
        rw [Nat.testBit_or] at this
        rw [Nat.testBit_div_two_pow, show hs.length - 1 = m - 1 by omega]
        simp at this
        simp [this.1]

/-- With's frame: the set in a block of its own, the result in the next one. -/
structure Fr (w w1 : World) (lo : Nat) (v : Value) : Prop where
  c0 : w1.cell? ⟨w.heap.size, 0, none⟩ = some (.int .u64 lo)
  c1 : w1.cell? ⟨w.heap.size, 1, none⟩ = some v
  r0 : w1.cell? ⟨w.heap.size + 1, 0, none⟩ = some (.int .u64 0)
  r1 : w1.cell? ⟨w.heap.size + 1, 1, none⟩ = some (.slice none 0 0)
  f0 : w1.frozen? ⟨w.heap.size + 1, 0, none⟩ = false
  f1 : w1.frozen? ⟨w.heap.size + 1, 1, none⟩ = false
  lt : w.heap.size + 1 < w1.heap.size
  kept : Kept (fun _ => False) w w1

theorem Fr.new {w w1 : World} {lo : Nat} {a : Option Addr} {n c : Nat} (h : Kept (fun _ => False) ((w.alloc (.cells #[.int .u64 lo, .slice a n c] 28)).alloc (.cells #[.int .u64 0, .slice none 0 0] 28)) w1) : Fr w w1 lo (.slice a n c) := by
  have hs : ((w.alloc (.cells #[.int .u64 lo, .slice a n c] 28)).alloc (.cells #[.int .u64 0, .slice none 0 0] 28)).heap.size = w.heap.size + 2 := by simp
  exact ⟨(h.cell (p := ⟨w.heap.size, 0, none⟩) (by rw [hs]; exact Nat.lt_succ_of_lt (Nat.lt_succ_self _)) (fun h => h)).trans (by go_simp),
    (h.cell (p := ⟨w.heap.size, 1, none⟩) (by rw [hs]; exact Nat.lt_succ_of_lt (Nat.lt_succ_self _)) (fun h => h)).trans (by go_simp),
    (h.cell (p := ⟨w.heap.size + 1, 0, none⟩) (by rw [hs]; exact Nat.lt_succ_self _) (fun h => h)).trans (by go_simp),
    (h.cell (p := ⟨w.heap.size + 1, 1, none⟩) (by rw [hs]; exact Nat.lt_succ_self _) (fun h => h)).trans (by go_simp),
    (h.frozen (p := ⟨w.heap.size + 1, 0, none⟩) (by rw [hs]; exact Nat.lt_succ_self _) (fun h => h)).trans (by go_simp),
    (h.frozen (p := ⟨w.heap.size + 1, 1, none⟩) (by rw [hs]; exact Nat.lt_succ_self _) (fun h => h)).trans (by go_simp),
    Nat.lt_of_lt_of_le (by rw [hs]; exact Nat.lt_succ_self _) h.size,
    ((Kept.alloc (fun _ => False) w _).then (Kept.alloc (fun _ => False) _ _)).trans h (fun _ _ h => h) (fun _ _ h => h)⟩

theorem Fr.drew {w w1 : World} {lo : Nat} {v : Value} (h : Fr w w1 lo v) : Fr w w1.drew lo v := ⟨h.c0, h.c1, h.r0, h.r1, h.f0, h.f1, h.lt, h.kept.drew⟩

theorem Fr.keptS {w a b : World} {lo : Nat} {v : Value} {S : Nat → Prop} (h : Fr w a lo v) (hk : Kept S a b) (hn : ∀ k, k ≤ w.heap.size + 1 → ¬ S k) : Fr w b lo v := by
  have l0 : w.heap.size < a.heap.size := Nat.lt_of_succ_lt h.lt
  have n0 := hn w.heap.size (Nat.le_succ _)
  have n1 := hn (w.heap.size + 1) (Nat.le_refl _)
  exact ⟨(hk.cell (p := ⟨w.heap.size, 0, none⟩) l0 n0).trans h.c0, (hk.cell (p := ⟨w.heap.size, 1, none⟩) l0 n0).trans h.c1,
    (hk.cell (p := ⟨w.heap.size + 1, 0, none⟩) h.lt n1).trans h.r0, (hk.cell (p := ⟨w.heap.size + 1, 1, none⟩) h.lt n1).trans h.r1,
    (hk.frozen (p := ⟨w.heap.size + 1, 0, none⟩) h.lt n1).trans h.f0, (hk.frozen (p := ⟨w.heap.size + 1, 1, none⟩) h.lt n1).trans h.f1,
    Nat.lt_of_lt_of_le h.lt hk.size, h.kept.trans hk (fun _ _ h => h) (fun i hi e => hn i (by omega) e)⟩

theorem Fr.fin {w w1 : World} {lo : Nat} {v : Value} (h : Fr w w1 lo v) (x y : Value) : Kept (fun _ => False) w ((w1.setCell ⟨w.heap.size + 1, 0, none⟩ x).setCell ⟨w.heap.size + 1, 1, none⟩ y) :=
  h.kept.trans ((Kept.setCell (fun k => k = w.heap.size + 1) _ ⟨w.heap.size + 1, 0, none⟩ x rfl).trans (Kept.setCell (fun k => k = w.heap.size + 1) _ ⟨w.heap.size + 1, 1, none⟩ y rfl) (fun _ _ h => h) (fun _ _ h => h)) (fun _ _ h => h) (fun i hi e => by omega)

theorem high_fin (w w3 : World) (g q m lo z N : Nat) (hmod : N % 2 ^ 64 = lo) (hcan : Canon (wl (N / 2 ^ 64) m) (N / 2 ^ 64)) (h1 : 1 ≤ m) (h2 : m ≤ 63) (lt3 : g < w3.heap.size) (lt1 : w.heap.size + 1 < g)
    (hk : Kept (fun _ => False) w w3) (ho : (w3.setCell ⟨g, q, none⟩ (.int .u64 (z : Int))).ownsRow g 25 1 (.slice (some ⟨g, 0, none⟩) m m) m (wv (wl (N / 2 ^ 64) m))) (W : World) (hK : Kept (fun k => k = w.heap.size + 1) (w3.setCell ⟨g, q, none⟩ (.int .u64 (z : Int))) W) :
    SetV W (.agg #[.int .u64 lo, .slice (some ⟨g, 0, none⟩) m m]) N ∧ (∀ k, setBlk (.agg #[.int .u64 lo, .slice (some ⟨g, 0, none⟩) m m]) k → w.heap.size ≤ k) ∧ Kept (fun _ => False) w W := by
  have hsz := (Kept.setCell (fun k => k = g) w3 ⟨g, q, none⟩ (.int .u64 (z : Int)) rfl).size
  refine ⟨⟨_, wl (N / 2 ^ 64) m, by rw [hmod], Or.inr ⟨g, 0, m, by rw [wl_length], by rw [wl_length]; exact Nat.le_refl _, by unfold maxLen; omega, ?_, ?_⟩, hcan, ?_⟩, ?_, ?_⟩
  · exact Nat.lt_of_lt_of_le (Nat.lt_of_lt_of_le lt3 hsz) hK.size
  · intro j hj
    have hj' := hj
    rw [wl_length] at hj'
    rw [Nat.zero_add, hK.cell (p := ⟨g, j, none⟩) (Nat.lt_of_lt_of_le lt3 hsz) (fun e => by have e : g = w.heap.size + 1 := e; omega), ho.cellAt j (by omega), wv_getD _ _ hj]
  · intro e
    have := congrArg List.length e
    rw [wl_length] at this
    simp at this
    omega
  · rintro k ⟨lo', hv', he, hb⟩
    cases he
    simp [Value.ownBlock] at hb
    omega
  · exact (hk.trans (Kept.setCell (fun k => k = g) w3 ⟨g, q, none⟩ (.int .u64 (z : Int)) rfl) (fun _ _ h => h) (fun i hi e => by omega)).trans hK (fun _ _ h => h) (fun i hi e => by omega)

theorem small_with {M i : Nat} (h : Small M) (hi : i ≤ 4095) : Small (M ||| 2 ^ i) :=
  fun e he => Nat.or_lt_two_pow (h e he) (Nat.pow_lt_pow_right (by omega) (by omega))

end Go.Proofs.YteaagllpkcpedaaGreatDoor
