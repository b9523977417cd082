/-
  bits: what a slice of words reads as; possible, bit, wordsFor, word, words, Empty, trim.
-/
import Derived.Test.YtccanbjnbmihgaaDoorCore
import Derived.Test.YtccanbjnbmihgaaDoorRows
import Derived.Outline
import Derived.WalkLawsBesides
import Derived.WalkSpells
import Derived.BigQuiet
import Derived.IntWalk
namespace Go.Proofs.YtccanbjnbmihgaaDoor
open Go.RowKit

/-- The value reads as these words: a nil slice and no word, or a slice whose cells hold them. -/
def Words (w : World) (v : Value) (xs : List Nat) : Prop :=
  (v = .slice none 0 0 ∧ xs = []) ∨
  ∃ g off cap, v = .slice (some ⟨g, off, none⟩) xs.length cap ∧ xs.length ≤ cap ∧ cap ≤ maxLen ∧ g < w.heap.size ∧
    ∀ i, i < xs.length → w.cell? ⟨g, off + i, none⟩ = some (.int .u64 (xs.getD i 0 : Nat))

theorem Words.kept {S : Nat → Prop} {a b : World} {v : Value} {xs : List Nat} (h : Words a v xs) (hk : Kept S a b) (hn : ∀ k, v.ownBlock = some k → ¬ S k) : Words b v xs := by
  rcases h with h | ⟨g, off, cap, rfl, h1, h2, h3, h4⟩
  · exact Or.inl h
  · exact Or.inr ⟨g, off, cap, rfl, h1, h2, Nat.lt_of_lt_of_le h3 hk.size, fun i hi => (hk.cell h3 (hn g rfl)).trans (h4 i hi)⟩

theorem Words.lt {w : World} {v : Value} {xs : List Nat} (h : Words w v xs) : ∀ k, v.ownBlock = some k → k < w.heap.size := by
  intro k hk
  rcases h with ⟨rfl, _⟩ | ⟨g, off, cap, rfl, _, _, h3, _⟩
  · simp [Value.ownBlock] at hk
  · simp [Value.ownBlock] at hk; subst hk; exact h3

theorem Words.form {w : World} {v : Value} {xs : List Nat} (h : Words w v xs) : ∃ a c, v = .slice a xs.length c := by
  rcases h with ⟨rfl, rfl⟩ | ⟨g, off, cap, rfl, _⟩
  · exact ⟨_, _, rfl⟩
  · exact ⟨_, _, rfl⟩

/-- A set's word number k. -/
def wd (lo : Nat) (hs : List Nat) (k : Nat) : Nat := if k = 0 then lo else hs.getD (k - 1) 0

set_option maxRecDepth 100000 in
theorem possible_yes (w : World) (i : Int) (h0 : 0 ≤ i) (h1 : i ≤ 4095) :
    Calls Tryd.prog 63 #[.int .i64 i] w fun e w' => e = .returned (.bool true) ∧ w = w' := by
  go_enter Tryd.func63, Tryd.ntmps63
  go_wp2_with fail
  go_ret
  exact ⟨rfl, rfl⟩

set_option maxRecDepth 100000 in
theorem possible_no (w : World) (i : Int) (h : i < 0 ∨ 4095 < i) :
    Calls Tryd.prog 63 #[.int .i64 i] w fun e w' => e = .returned (.bool false) ∧ w = w' := by
  rcases h with h | h
  · have hd : decide (0 ≤ i) = false := by simpa using h
    go_enter Tryd.func63, Tryd.ntmps63
    go_wp2_with fail
    go_ret
    exact ⟨rfl, rfl⟩
  · have h0 : 0 ≤ i := by omega
    have hd : decide (i ≤ 4095) = false := by simpa using h
    go_enter Tryd.func63, Tryd.ntmps63
    go_wp2_with fail
    go_ret
    exact ⟨rfl, rfl⟩

set_option maxRecDepth 100000 in
theorem bit_any (w : World) (i : Nat) (b : Nat) (hi : i ≤ 4096) (hb : Hid (b = 2 ^ (i % 64))) :
    Calls Tryd.prog 65 #[.int .i64 i] w fun e w' => e = .returned (.int .u64 b) ∧ w = w' := by
  obtain ⟨j, hj⟩ : ∃ j : Nat, j = i % 64 := ⟨_, rfl⟩
  have hji : ((i : Int) % 64) = (j : Int) := by omega
  have hj0 : (0 : Int) ≤ (j : Int) := by omega
  have hj1 : (j : Int) ≤ 63 := by omega
  have hw : IntKind.u64.wrap (2 ^ j) = (b : Int) := by
    rw [hb.out, ← hj]
    have h63 : (2 : Nat) ^ j ≤ 9223372036854775808 := by
      have h2 : (2 : Nat) ^ j ≤ 2 ^ 63 := Nat.pow_le_pow_right (by omega) (by omega)
      simpa using h2
    have e : ((2 : Int) ^ j) = ((2 ^ j : Nat) : Int) := by simp
    rw [e]
    generalize (2 : Nat) ^ j = q at h63
    rw [IntWalk.u64_in _ (by omega)]
  have HJ := Lib.hid hj; clear hj
  go_enter Tryd.func65, Tryd.ntmps65
  go_wp2_with fail
  go_ret
  exact ⟨rfl, rfl⟩

set_option maxRecDepth 100000 in
theorem words_any (w : World) (lo n c : Nat) (a : Option Addr) (hn : n ≤ 1000000) :
    Calls Tryd.prog 87 #[.agg #[.int .u64 lo, .slice a n c]] w fun e w' => e = .returned (.int .i64 (1 + n)) ∧ Kept (fun _ => False) w w' := by
  go_enter Tryd.func87, Tryd.ntmps87
  go_wp2_with fail
  go_ret
  exact ⟨rfl, Kept.alloc _ _ _⟩

set_option maxRecDepth 100000 in
theorem empty_any (w : World) (lo n c : Nat) (a : Option Addr) :
    Calls Tryd.prog 45 #[.agg #[.int .u64 lo, .slice a n c]] w fun e w' => e = .returned (.bool (decide (lo = 0 ∧ n = 0))) ∧ Kept (fun _ => False) w w' := by
  by_cases h0 : lo = 0
  · subst h0
    by_cases h1 : n = 0
    · subst h1
      go_enter Tryd.func45, Tryd.ntmps45
      go_wp2_with fail
      go_ret
      exact ⟨rfl, Kept.alloc _ _ _⟩
    · rw [show decide (0 = 0 ∧ n = 0) = false by simpa using h1]
      have hb : ((n : Int) == 0) = false := by simp; omega
      clear h1
      go_enter Tryd.func45, Tryd.ntmps45
      go_wp2_with fail
      go_ret
      exact ⟨rfl, Kept.alloc _ _ _⟩
  · rw [show decide (lo = 0 ∧ n = 0) = false by simp [h0]]
    have hb : ((lo : Int) == 0) = false := by simp; omega
    clear h0
    go_enter Tryd.func45, Tryd.ntmps45
    go_wp2_with fail
    go_ret
    exact ⟨rfl, Kept.alloc _ _ _⟩

set_option maxRecDepth 100000 in
set_option maxHeartbeats 400000 in
theorem word_any (w : World) (lo : Nat) (hv : Value) (hs : List Nat) (k : Nat) (h : Words w hv hs) (hk : k ≤ 1000000) :
    Calls Tryd.prog 64 #[.agg #[.int .u64 lo, hv], .int .i64 k] w fun e w' => e = .returned (.int .u64 (wd lo hs k : Nat)) ∧ Kept (fun _ => False) w w' := by
  by_cases h0 : k = 0
  · subst h0
    rw [show wd lo hs 0 = lo from if_pos rfl]
    obtain ⟨a, c, rfl⟩ := h.form
    clear h
    go_enter Tryd.func64, Tryd.ntmps64
    go_wp2_with fail
    go_ret
    exact ⟨rfl, Kept.alloc _ _ _⟩
  · rw [show wd lo hs k = hs.getD (k - 1) 0 from if_neg h0]
    have hb : ((k : Int) == 0) = false := by simp; omega
    by_cases hlt : k ≤ hs.length
    · rcases h with ⟨_, rfl⟩ | ⟨g, off, cap, rfl, h1, h2, h3, h4⟩
      · simp at hlt; omega
      · have hc := h4 (k - 1) (by omega)
        have hb1 : (0 : Int) ≤ (k : Int) - 1 := by omega
        have hb2 : (k : Int) - 1 < (hs.length : Int) := by omega
        generalize hs.getD (k - 1) 0 = x at hc
        generalize hs.length = n at *
        obtain ⟨j, rfl⟩ : ∃ j, k = j + 1 := ⟨k - 1, by omega⟩
        have hc' : w.cell? ⟨g, off + j, none⟩ = some (.int .u64 x) := hc
        clear hc h4 h0 h2
        have hlt2 : (j : Int) + 1 ≤ (n : Int) := by omega
        have hj : (j : Int) ≤ 1000000 := by omega
        have hbb : ((j : Int) + 1 == 0) = false := by simp; omega
        clear hb hb1 hb2
        go_enter Tryd.func64, Tryd.ntmps64
        go_wp2_with fail
        go_ret
        exact ⟨rfl, Kept.alloc _ _ _⟩
    · obtain ⟨a, c, rfl⟩ := h.form
      rw [show hs.getD (k - 1) 0 = 0 by simp [List.getD, List.getElem?_eq_none (show hs.length ≤ k - 1 by omega)]]
      clear h
      generalize hs.length = n at *
      have hlt2 : (n : Int) < (k : Int) := by omega
      clear h0
      go_enter Tryd.func64, Tryd.ntmps64
      go_wp2_with fail
      go_ret
      exact ⟨rfl, Kept.alloc _ _ _⟩

/-- Where 'trim' stops. -/
structure TrimAt (ws : List Nat) (n : Nat) : Prop where
  le : n ≤ ws.length
  zero : ∀ i, n ≤ i → i < ws.length → ws.getD i 0 = 0
  last : n = 0 ∨ ws.getD (n - 1) 0 ≠ 0

/-- What 'trim' gives: the words up to the last one that is not 0; nil if none is left. -/
structure TrimRes (w : World) (v : Value) (ws : List Nat) (v' : Value) : Prop where
  ex : ∃ n, TrimAt ws n ∧ Words w v' (ws.take n) ∧ (n = 0 → v' = .slice none 0 0) ∧ (v'.ownBlock = none ∨ v'.ownBlock = v.ownBlock)

theorem TrimRes.form {w : World} {v : Value} {ws : List Nat} {v' : Value} (h : TrimRes w v ws v') : ∃ a n c, v' = .slice a n c := by
  obtain ⟨n, _, hw, _⟩ := h.ex
  obtain ⟨a, c, e⟩ := hw.form
  exact ⟨_, _, _, e⟩

end Go.Proofs.YtccanbjnbmihgaaDoor
