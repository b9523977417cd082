/-
  Names: which texts are names (P8.1): names.Valid, arbacref08.Valid, the keywords; rows of strings.
-/
import Derived.Test.YtoekdcobnmkpaaaGreatDoorCore
import Derived.Test.YtoekdcobnmkpaaaGreatDoorWriter
import Derived.WalkLawsBesides
import Derived.WalkSpells
import Derived.Outline
namespace Go.Proofs.YtoekdcobnmkpaaaGreatDoor
open Go.RowKit

/-- The byte at a place of a string. -/
def bat (s : ByteArray) (j : Nat) : Nat := (strB s).getD j 0
theorem bat_at (s : ByteArray) (j : Nat) (p : j < s.size) : (s[j]'p).toNat = bat s j := by
  have h : j < s.data.size := p
  show (s.data[j]'_).toNat = _
  simp [bat, strB, List.getD, Array.getElem?_eq_getElem h]
theorem bat_lt (s : ByteArray) (j : Nat) : bat s j < 256 := by
  unfold bat strB
  rw [List.getD_eq_getElem?_getD, List.getElem?_map]
  cases s.data.toList[j]? with
  | none => simp
  | some b => simpa using b.toNat_lt

theorem str_eq (a b : ByteArray) : (a.toList == b.toList) = decide (a = b) := by
  rw [Bool.eq_iff_iff, beq_iff_eq, decide_eq_true_iff, ByteArray.toList_eq, ByteArray.toList_eq]
  constructor
  · intro h
    cases a; cases b
    simp only [ByteArray.mk.injEq]
    exact Array.ext' h
  · intro h
    rw [h]
theorem str_empty (a : ByteArray) : a.toList.isEmpty = decide (a.size = 0) := by
  rw [ByteArray.toList_eq, Bool.eq_iff_iff, decide_eq_true_iff, List.isEmpty_iff]
  constructor
  · intro h
    show a.data.size = 0
    rw [← Array.length_toList, h]; rfl
  · intro h
    have h : a.data.size = 0 := h
    rw [← Array.length_toList] at h
    exact List.length_eq_zero_iff.1 h

def letB (b : Nat) : Bool := decide (97 ≤ b) && decide (b ≤ 122)
def digB (b : Nat) : Bool := decide (48 ≤ b) && decide (b ≤ 57)
/-- A character that may stand at this place of a name. -/
def chrB (b j : Nat) : Bool := letB b || (decide (j ≠ 0) && (digB b || decide (b = 95)))

/-- The keywords. -/
def kwdL : List ByteArray := [⟨#[97, 108, 108]⟩, ⟨#[97, 110, 100]⟩, ⟨#[97, 115, 115, 105, 103, 110]⟩, ⟨#[98, 121]⟩, ⟨#[99, 111, 117, 110, 116]⟩, ⟨#[100, 101, 99, 108, 97, 114, 101]⟩, ⟨#[100, 121, 110, 97, 109, 105, 99]⟩, ⟨#[101, 110, 102, 111, 114, 99, 101]⟩, ⟨#[102, 97, 108, 115, 101]⟩, ⟨#[102, 111, 114]⟩, ⟨#[105, 102]⟩, ⟨#[109, 101, 109, 98, 101, 114, 115]⟩, ⟨#[110, 111, 110, 101]⟩, ⟨#[110, 111, 116]⟩, ⟨#[111, 110]⟩, ⟨#[111, 114]⟩, ⟨#[114, 101, 118, 111, 107, 101]⟩, ⟨#[115, 116, 97, 116, 105, 99]⟩, ⟨#[116, 114, 117, 101]⟩, ⟨#[117, 115, 101, 114, 115]⟩]

/-- Whether a string is one of a list. -/
def memS (s : ByteArray) (xs : List ByteArray) : Bool := xs.any fun x => s.toList == x.toList
theorem memS_iff (s : ByteArray) (xs : List ByteArray) : memS s xs = true ↔ s ∈ xs := by
  unfold memS
  rw [List.any_eq_true]
  constructor
  · rintro ⟨x, hx, h⟩
    rw [str_eq, decide_eq_true_iff] at h
    rw [h]; exact hx
  · intro h
    exact ⟨s, h, by simp⟩

/-- Whether a text is a name. -/
def validS (s : ByteArray) : Bool := decide (0 < s.size) && decide (s.size ≤ 12) && (List.range s.size).all (fun j => chrB (bat s j) j) && !(memS s kwdL)

theorem validS_bad {s : ByteArray} (h : s.size = 0 ∨ 12 < s.size ∨ ∃ j, j < s.size ∧ chrB (bat s j) j = false) : validS s = false := by
  unfold validS
  rcases h with h | h | ⟨j, hj, h⟩
  · simp [h]
  · simp [show ¬ s.size ≤ 12 by omega]
  · have : (List.range s.size).all (fun j => chrB (bat s j) j) = false := by
      rw [List.all_eq_false]
      exact ⟨j, List.mem_range.2 hj, by simp [h]⟩
    simp [this]
theorem validS_good {s : ByteArray} (h0 : s.size ≠ 0) (h1 : s.size ≤ 12) (h2 : ∀ j, j < s.size → chrB (bat s j) j = true) : validS s = !(memS s kwdL) := by
  unfold validS
  have : (List.range s.size).all (fun j => chrB (bat s j) j) = true := List.all_eq_true.2 fun j hj => h2 j (List.mem_range.1 hj)
  rw [this]
  simp [h1, show 0 < s.size by omega]

/-- A value that reads as a row of strings. -/
def Strs (w : World) (v : Value) (xs : List ByteArray) : Prop :=
  (v = .slice none 0 0 ∧ xs = []) ∨
  ∃ g off cap, v = .slice (some ⟨g, off, none⟩) xs.length cap ∧ xs.length ≤ cap ∧ cap ≤ maxLen ∧ g < w.heap.size ∧
    ∀ i, i < xs.length → w.cell? ⟨g, off + i, none⟩ = some (.string (xs.getD i ⟨#[]⟩))
theorem Strs.kept {S : Nat → Prop} {a b : World} {v : Value} {xs : List ByteArray} (h : Strs a v xs) (hk : Kept S a b) (hn : ∀ k, v.ownBlock = some k → ¬ S k) : Strs b v xs := by
  rcases h with h | ⟨g, off, cap, rfl, h1, h2, h3, h4⟩
  · exact Or.inl h
  · exact Or.inr ⟨g, off, cap, rfl, h1, h2, Nat.lt_of_lt_of_le h3 hk.size, fun i hi => (hk.cell (p := ⟨g, off + i, none⟩) h3 (hn g rfl)).trans (h4 i hi)⟩
theorem Strs.form {w : World} {v : Value} {xs : List ByteArray} (h : Strs w v xs) : ∃ a c, v = .slice a xs.length c ∧ xs.length ≤ c ∧ c ≤ maxLen := by
  rcases h with ⟨rfl, rfl⟩ | ⟨g, off, cap, rfl, h1, h2, _⟩
  · exact ⟨_, _, rfl, Nat.le_refl _, Nat.zero_le _⟩
  · exact ⟨_, _, rfl, h1, h2⟩
theorem Strs.at {w : World} {a : Option Addr} {n c k : Nat} {xs : List ByteArray} (h : Strs w (.slice a n c) xs) (hk : k < xs.length) :
    ∃ g off, a = some ⟨g, off, none⟩ ∧ g < w.heap.size ∧ w.cell? ⟨g, off + k, none⟩ = some (.string (xs.getD k ⟨#[]⟩)) := by
  rcases h with ⟨_, rfl⟩ | ⟨g, off, cap, h, _, _, h3, h4⟩
  · simp at hk
  · cases h
    exact ⟨g, off, rfl, h3, h4 k hk⟩
theorem strs_new (w : World) (cs : Array Value) (T : TypeId) (n : Nat) (xs : List ByteArray) (hn : n = xs.length) (hcs : cs.toList = xs.map Value.string) (hm : n ≤ maxLen) : Strs (w.alloc (.cells cs T)) (.slice (some ⟨w.heap.size, 0, none⟩) n n) xs := by
  subst hn
  refine Or.inr ⟨w.heap.size, 0, _, rfl, Nat.le_refl _, hm, by simp, fun i hi => ?_⟩
  rw [cell_of_row _ w.heap.size (0 + i) _ T (0, 0) (heap_alloc_new w _)]
  have : cs.toList[i]? = some (.string (xs.getD i ⟨#[]⟩)) := by rw [hcs]; simp [List.getD, hi]
  simpa using this

end Go.Proofs.YtoekdcobnmkpaaaGreatDoor
