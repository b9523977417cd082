/-
  Tokens: plain words (blanks and comments, words, numbers, symbols, the scan).
-/
import Derived.Test.YthkjcgcfbodgbaaDoorNamV
namespace Go.Proofs.YthkjcgcfbodgbaaDoor
open Go.RowKit

def blankB (c : Nat) : Bool := decide (c = 32) || decide (c = 9) || decide (c = 10) || decide (c = 13)
def inWordB (c : Nat) : Bool := letB c || digB c || decide (c = 95)

/-- How many bytes at the beginning lie in blanks and comments (in a comment already, or not). -/
def skipN : Bool → List Nat → Nat
  | _, [] => 0
  | false, c :: t => if blankB c = true then skipN false t + 1 else if c = 35 then skipN true t + 1 else 0
  | true, c :: t => if c = 10 then skipN false t + 1 else skipN true t + 1
theorem skipN_le : ∀ (l : List Nat) (b : Bool), skipN b l ≤ l.length
  | [], b => by cases b <;> simp [skipN]
  | c :: t, true => by
    have h1 := skipN_le t true
    have h2 := skipN_le t false
    simp only [skipN, List.length_cons]
    split <;> omega
  | c :: t, false => by
    have h1 := skipN_le t true
    have h2 := skipN_le t false
    simp only [skipN, List.length_cons]
    repeat' split
    all_goals omega
theorem skipN_lf (t : List Nat) : skipN true (10 :: t) = skipN false (10 :: t) := by simp [skipN, blankB]
theorem skipN_comment : ∀ (p u : List Nat), 10 ∉ p → skipN true (p ++ u) = p.length + skipN true u
  | [], u, _ => by simp
  | c :: t, u, h => by
    have hc : c ≠ 10 := fun e => h (by simp [e])
    have ih := skipN_comment t u (fun e => h (List.mem_cons_of_mem _ e))
    rw [List.cons_append, skipN, if_neg hc, ih, List.length_cons]; omega

/-- Where the blanks and comments end that begin at a place. -/
def skipT (L : List Nat) (i : Nat) : Nat := i + skipN false (L.drop i)
theorem drop_at {L : List Nat} {i : Nat} (h : i < L.length) : L.drop i = L.getD i 0 :: L.drop (i + 1) := by
  rw [List.drop_eq_getElem_cons h]
  simp [List.getD, h]
theorem skipT_le (L : List Nat) (i : Nat) (h : i ≤ L.length) : i ≤ skipT L i ∧ skipT L i ≤ L.length := by
  have := skipN_le (L.drop i) false
  rw [List.length_drop] at this
  unfold skipT; omega
theorem skipT_end (L : List Nat) (i : Nat) (h : L.length ≤ i) : skipT L i = i := by
  unfold skipT
  rw [List.drop_of_length_le h]; rfl
theorem skipT_blank {L : List Nat} {i : Nat} (h : i < L.length) (hb : blankB (L.getD i 0) = true) : skipT L (i + 1) = skipT L i := by
  unfold skipT
  rw [drop_at h, skipN, if_pos hb]; omega
theorem skipT_stop {L : List Nat} {i : Nat} (h : i < L.length) (hb : blankB (L.getD i 0) = false) (hh : L.getD i 0 ≠ 35) : skipT L i = i := by
  unfold skipT
  rw [drop_at h, skipN, if_neg (by rw [hb]; decide), if_neg hh]; rfl
theorem skipT_hash {L : List Nat} {i : Nat} (h : i < L.length) (hh : L.getD i 0 = 35) : skipT L i = i + 1 + skipN true (L.drop (i + 1)) := by
  unfold skipT
  rw [drop_at h, hh, skipN, if_neg (by decide), if_pos rfl]; omega
/-- A comment without a line feed goes on to the end. -/
theorem skipT_none {L : List Nat} {i : Nat} (h : i < L.length) (hh : L.getD i 0 = 35) (hn : 10 ∉ L.drop (i + 1)) : skipT L i = L.length := by
  rw [skipT_hash h hh]
  have := skipN_comment (L.drop (i + 1)) [] hn
  rw [List.append_nil] at this
  rw [this, List.length_drop]
  simp only [skipN]; omega
/-- A comment goes on to its line feed. -/
theorem skipT_some {L : List Nat} {i n : Nat} (h : i + n < L.length) (h0 : 0 < n) (hh : L.getD i 0 = 35) (hn : 10 ∉ (L.drop (i + 1)).take (n - 1)) (he : L.getD (i + n) 0 = 10) : skipT L i = skipT L (i + n) := by
  rw [skipT_hash (by omega) hh]
  have e : L.drop (i + 1) = (L.drop (i + 1)).take (n - 1) ++ 10 :: L.drop (i + n + 1) := by
    conv => lhs; rw [← List.take_append_drop (n - 1) (L.drop (i + 1))]
    rw [List.drop_drop, show i + 1 + (n - 1) = i + n by omega, drop_at h, he]
  have hl : ((L.drop (i + 1)).take (n - 1)).length = n - 1 := by rw [List.length_take, List.length_drop]; omega
  rw [e, skipN_comment _ _ hn, hl, skipN_lf]
  unfold skipT
  rw [drop_at h, he]; omega

/-- The symbols, the longer ones first. -/
def symL : List (List Nat) := [[45, 62], [60, 61], [62, 61], [61, 61], [60], [62], [40], [41], [44], [59], [58], [43], [45]]
/-- The length of the symbol at the beginning; 0: there is none. -/
def symN (l : List Nat) : Nat := ((symL.find? fun x => x.isPrefixOf l).getD []).length
def valN (l : List Nat) : Nat := l.foldl (fun n c => 10 * n + (c - 48)) 0
/-- The token at the beginning: its kind, its length, its value; kind 0: there is none. -/
def firstT (l : List Nat) : Nat × Nat × Nat :=
  match l with
  | [] => (0, 0, 0)
  | c :: _ =>
    if letB c = true then (1, (l.takeWhile inWordB).length, 0)
    else if digB c = true then
      let n := (l.takeWhile digB).length
      if 6 < n ∨ (c = 48 ∧ 1 < n) ∨ (n < l.length ∧ inWordB (l.getD n 0) = true) then (0, 0, 0) else (2, n, valN (l.take n))
    else if symN l = 0 then (0, 0, 0) else (3, symN l, 0)
/-- The tokens from a place on (kind, place, length, value), and the place of the error, if there is one. -/
def scanF (L : List Nat) : Nat → Nat → List (Nat × Nat × Nat × Nat) × Option Nat
  | 0, _ => ([], none)
  | f + 1, i =>
    if i < L.length then
      if (firstT (L.drop i)).1 = 0 then ([], some i)
      else (((firstT (L.drop i)).1, i, (firstT (L.drop i)).2.1, (firstT (L.drop i)).2.2) :: (scanF L f (skipT L (i + (firstT (L.drop i)).2.1))).1, (scanF L f (skipT L (i + (firstT (L.drop i)).2.1))).2)
    else ([], none)
end Go.Proofs.YthkjcgcfbodgbaaDoor
