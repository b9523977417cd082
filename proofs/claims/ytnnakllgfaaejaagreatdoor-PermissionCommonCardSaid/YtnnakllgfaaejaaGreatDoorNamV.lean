/-
  Names: which texts are names (P8.1): names.Valid, arbacref08.Valid, the keywords; rows of strings.
-/
import Derived.Test.YtnnakllgfaaejaaGreatDoorCore
import Derived.Test.YtnnakllgfaaejaaGreatDoorWriter
import Derived.WalkLawsBesides
import Derived.WalkSpells
import Derived.Outline
namespace Go.Proofs.YtnnakllgfaaejaaGreatDoor
open Go.RowKit

/-- The byte at a place of a string. -/
def bat (s : ByteArray) (j : Nat) : Nat := (strB s).getD j 0
theorem bat_at (s : ByteArray) (j : Nat) (p : j < s.size) : (s[j]'p).toNat = bat s j := by
  have h : j < s.data.size := p
  show (s.data[j]'_).toNat = _
  simp [bat, strB, List.getD, Array.getElem?_eq_getElem h]
theorem bat_lt (s : ByteArray) (j : Nat) : bat s j < 256 := by
  unfold bat strB
  rw [List.getD_eq_getElem?_getD, List.getElem?_map]
  cases s.data.toList[j]? with
  | none => simp
  | some b => simpa using b.toNat_lt

theorem str_eq (a b : ByteArray) : (a.toList == b.toList) = decide (a = b) := by
  rw [Bool.eq_iff_iff, beq_iff_eq, decide_eq_true_iff, ByteArray.toList_eq, ByteArray.toList_eq]
  constructor
  · intro h
    cases a; cases b
    simp only [ByteArray.mk.injEq]
    exact Array.ext' h
  · intro h
    rw [h]
theorem str_empty (a : ByteArray) : a.toList.isEmpty = decide (a.size = 0) := by
  rw [ByteArray.toList_eq, Bool.eq_iff_iff, decide_eq_true_iff, List.isEmpty_iff]
  constructor
  · intro h
    show a.data.size = 0
    rw [← Array.length_toList, h]; rfl
  · intro h
    have h : a.data.size = 0 := h
    rw [← Array.length_toList] at h
    exact List.length_eq_zero_iff.1 h

def letB (b : Nat) : Bool := decide (97 ≤ b) && decide (b ≤ 122)
def digB (b : Nat) : Bool := decide (48 ≤ b) && decide (b ≤ 57)
/-- A character that may stand at this place of a name. -/
def chrB (b j : Nat) : Bool := letB b || (decide (j ≠ 0) && (digB b || decide (b = 95)))

/-- The keywords. -/
def kwdL : List ByteArray := [⟨#[97, 108, 108]⟩, ⟨#[97, 110, 100]⟩, ⟨#[97, 115, 115, 105, 103, 110]⟩, ⟨#[98, 121]⟩, ⟨#[99, 111, 117, 110, 116]⟩, ⟨#[100, 101, 99, 108, 97, 114, 101]⟩, ⟨#[100, 121, 110, 97, 109, 105, 99]⟩, ⟨#[101, 110, 102, 111, 114, 99, 101]⟩, ⟨#[102, 97, 108, 115, 101]⟩, ⟨#[102, 111, 114]⟩, ⟨#[105, 102]⟩, ⟨#[109, 101, 109, 98, 101, 114, 115]⟩, ⟨#[110, 111, 110, 101]⟩, ⟨#[110, 111, 116]⟩, ⟨#[111, 110]⟩, ⟨#[111, 114]⟩, ⟨#[114, 101, 118, 111, 107, 101]⟩, ⟨#[115, 116, 97, 116, 105, 99]⟩, ⟨#[116, 114, 117, 101]⟩, ⟨#[117, 115, 101, 114, 115]⟩]

/-- Whether a string is one of a list. -/
def memS (s : ByteArray) (xs : List ByteArray) : Bool := xs.any fun x => s.toList == x.toList
theorem memS_iff (s : ByteArray) (xs : List ByteArray) : memS s xs = true ↔ s ∈ xs := by
  unfold memS
  rw [List.any_eq_true]
  constructor
  · rintro ⟨x, hx, h⟩
    rw [str_eq, decide_eq_true_iff] at h
    rw [h]; exact hx
  · intro h
    exact ⟨s, h, by simp⟩

/-- Whether a text is a name. -/
def validS (s : ByteArray) : Bool := decide (0 < s.size) && decide (s.size ≤ 12) && (List.range s.size).all (fun j => chrB (bat s j) j) && !(memS s kwdL)

theorem validS_bad {s : ByteArray} (h : s.size = 0 ∨ 12 < s.size ∨ ∃ j, j < s.size ∧ chrB (bat s j) j = false) : validS s = false := by
  unfold validS
  rcases h with h | h | ⟨j, hj, h⟩
  · simp [h]
  · simp [show ¬ s.size ≤ 12 by omega]
  · have : (List.range s.size).all (fun j => chrB (bat s j) j) = false := by
      rw [List.all_eq_false]
      exact ⟨j, List.mem_range.2 hj, by simp [h]⟩
    simp [this]
theorem validS_good {s : ByteArray} (h0 : s.size ≠ 0) (h1 : s.size ≤ 12) (h2 : ∀ j, j < s.size → chrB (bat s j) j = true) : validS s = !(memS s kwdL) := by
  unfold validS
  have : (List.range s.size).all (fun j => chrB (bat s j) j) = true := List.all_eq_true.2 fun j hj => h2 j (List.mem_range.1 hj)
  rw [this]
  simp [h1, show 0 < s.size by omega]

/-- A value that reads as a row of strings. -/
def Strs (w : World) (v : Value) (xs : List ByteArray) : Prop :=
  (v = .slice none 0 0 ∧ xs = []) ∨
  ∃ g off cap, v = .slice (some ⟨g, off, none⟩) xs.length cap ∧ xs.length ≤ cap ∧ cap ≤ maxLen ∧ g < w.heap.size ∧
    ∀ i, i < xs.length → w.cell? ⟨g, off + i, none⟩ = some (.string (xs.getD i ⟨#[]⟩))
theorem Strs.kept {S : Nat → Prop} {a b : World} {v : Value} {xs : List ByteArray} (h : Strs a v xs) (hk : Kept S a b) (hn : ∀ k, v.ownBlock = some k → ¬ S k) : Strs b v xs := by
  rcases h with h | ⟨g, off, cap, rfl, h1, h2, h3, h4⟩
  · exact Or.inl h
  · exact Or.inr ⟨g, off, cap, rfl, h1, h2, Nat.lt_of_lt_of_le h3 hk.size, fun i hi => (hk.cell (p := ⟨g, off + i, none⟩) h3 (hn g rfl)).trans (h4 i hi)⟩
theorem Strs.form {w : World} {v : Value} {xs : List ByteArray} (h : Strs w v xs) : ∃ a c, v = .slice a xs.length c ∧ xs.length ≤ c ∧ c ≤ maxLen := by
  rcases h with ⟨rfl, rfl⟩ | ⟨g, off, cap, rfl, h1, h2, _⟩
  · exact ⟨_, _, rfl, Nat.le_refl _, Nat.zero_le _⟩
  · exact ⟨_, _, rfl, h1, h2⟩
theorem Strs.at {w : World} {a : Option Addr} {n c k : Nat} {xs : List ByteArray} (h : Strs w (.slice a n c) xs) (hk : k < xs.length) :
    ∃ g off, a = some ⟨g, off, none⟩ ∧ g < w.heap.size ∧ w.cell? ⟨g, off + k, none⟩ = some (.string (xs.getD k ⟨#[]⟩)) := by
  rcases h with ⟨_, rfl⟩ | ⟨g, off, cap, h, _, _, h3, h4⟩
  · simp at hk
  · cases h
    exact ⟨g, off, rfl, h3, h4 k hk⟩
theorem strs_new (w : World) (cs : Array Value) (T : TypeId) (n : Nat) (xs : List ByteArray) (hn : n = xs.length) (hcs : cs.toList = xs.map Value.string) (hm : n ≤ maxLen) : Strs (w.alloc (.cells cs T)) (.slice (some ⟨w.heap.size, 0, none⟩) n n) xs := by
  subst hn
  refine Or.inr ⟨w.heap.size, 0, _, rfl, Nat.le_refl _, hm, by simp, fun i hi => ?_⟩
  rw [cell_of_row _ w.heap.size (0 + i) _ T (0, 0) (heap_alloc_new w _)]
  have : cs.toList[i]? = some (.string (xs.getD i ⟨#[]⟩)) := by rw [hcs]; simp [List.getD, hi]
  simpa using this

set_option maxRecDepth 100000 in
theorem letter_any (c : Nat) (w : World) : Calls Tryz.prog 88 #[.int .u8 c] w fun e w' => e = .returned (.bool (letB c)) ∧ w = w' := by
  by_cases h1 : 97 ≤ c
  · have t1 : (97 : Int) ≤ c := by omega
    by_cases h2 : c ≤ 122
    · have t2 : (c : Int) ≤ 122 := by omega
      have hr : letB c = true := by simp [letB, h1, h2]
      go_enter Tryz.func88, Tryz.ntmps88
      go_wp2_with fail
      go_ret
      exact ⟨by first | rfl | (rw [hr]; rfl), rfl⟩
    · have t2 : ¬ (c : Int) ≤ 122 := by omega
      have hr : letB c = false := by simp [letB, h2]
      go_enter Tryz.func88, Tryz.ntmps88
      go_wp2_with fail
      go_ret
      exact ⟨by first | rfl | (rw [hr]; rfl), rfl⟩
  · have t1 : ¬ (97 : Int) ≤ c := by omega
    have hr : letB c = false := by simp [letB, h1]
    go_enter Tryz.func88, Tryz.ntmps88
    go_wp2_with fail
    go_ret
    exact ⟨by first | rfl | (rw [hr]; rfl), rfl⟩

set_option maxRecDepth 100000 in
theorem digit_any8 (c : Nat) (w : World) : Calls Tryz.prog 89 #[.int .u8 c] w fun e w' => e = .returned (.bool (digB c)) ∧ w = w' := by
  by_cases h1 : 48 ≤ c
  · have t1 : (48 : Int) ≤ c := by omega
    by_cases h2 : c ≤ 57
    · have t2 : (c : Int) ≤ 57 := by omega
      have hr : digB c = true := by simp [digB, h1, h2]
      go_enter Tryz.func89, Tryz.ntmps89
      go_wp2_with fail
      go_ret
      exact ⟨by first | rfl | (rw [hr]; rfl), rfl⟩
    · have t2 : ¬ (c : Int) ≤ 57 := by omega
      have hr : digB c = false := by simp [digB, h2]
      go_enter Tryz.func89, Tryz.ntmps89
      go_wp2_with fail
      go_ret
      exact ⟨by first | rfl | (rw [hr]; rfl), rfl⟩
  · have t1 : ¬ (48 : Int) ≤ c := by omega
    have hr : digB c = false := by simp [digB, h1]
    go_enter Tryz.func89, Tryz.ntmps89
    go_wp2_with fail
    go_ret
    exact ⟨by first | rfl | (rw [hr]; rfl), rfl⟩

set_option maxRecDepth 100000 in
theorem keywords_any (w : World) : Calls Tryz.prog 91 #[] w fun e w' => e = .returned (.slice (some ⟨w.heap.size, 0, none⟩) 20 20) ∧ Strs w' (.slice (some ⟨w.heap.size, 0, none⟩) 20 20) kwdL ∧ Kept (fun _ => False) w w' := by
  have hs := strs_new w (kwdL.map Value.string).toArray 9 20 kwdL rfl rfl (by unfold maxLen; omega)
  have hk := Kept.alloc (fun _ => False) w (.cells (kwdL.map Value.string).toArray 9)
  have HS := Lib.hid hs; have HK := Lib.hid hk
  clear hs hk
  go_enter Tryz.func91, Tryz.ntmps91
  go_wp2_with fail
  go_ret
  exact ⟨rfl, HS.out, HK.out⟩

set_option maxRecDepth 100000 in
set_option maxHeartbeats 800000 in
theorem index_any (v : Value) (xs : List ByteArray) (s : ByteArray) (w : World) (h : Strs w v xs) :
    Calls Tryz.prog 99 #[v, .string s] w fun e w' => (∃ r : Int, e = .returned (.int .i64 r) ∧ (0 ≤ r ↔ s ∈ xs)) ∧ w = w' := by
  obtain ⟨a, c, rfl, hnc, hcm⟩ := h.form
  unfold maxLen at hcm
  have HS := Lib.hid h
  obtain ⟨n, hn⟩ : ∃ n, n = xs.length := ⟨_, rfl⟩
  have hnb : n ≤ 9223372036854775807 := by omega
  rw [← hn] at HS ⊢
  have HN := Lib.hid hn
  clear h hn hcm hnc
  go_enter Tryz.func99, Tryz.ntmps99
  go_wp2_with fail
  go_loop [8] (fun iv => ∃ k : Nat, k ≤ n ∧ iv = .int .i64 k ∧ Hid (∀ j, j < k → xs.getD j ⟨#[]⟩ ≠ s)) (fun iv => n - (intOf iv).toNat)
  case atStart => exact ⟨0, by omega, rfl, fun j hj => by omega⟩
  case round =>
    obtain ⟨k, hk, rfl, hno⟩ := hrel
    by_cases hlt : k < n
    · have l1 : (k : Int) < (n : Int) := by omega
      have l0 : (0 : Int) ≤ (k : Int) := by omega
      obtain ⟨g, off, rfl, _, hcell⟩ := HS.out.at (k := k) (by have := HN.out; omega)
      obtain ⟨x, hx⟩ : ∃ x, x = xs.getD k ⟨#[]⟩ := ⟨_, rfl⟩
      rw [← hx] at hcell
      have HX := Lib.hid hx
      clear hx
      by_cases he : s = x
      · have hb : (s.toList == x.toList) = true := by rw [str_eq]; simp [he]
        have hm : s ∈ xs := by
          have h := HX.out
          have hk2 : k < xs.length := by have := HN.out; omega
          rw [he, h]
          simp [List.getD, hk2]
        have HM := Lib.hid hm
        clear hm
        clear he
        go_wp2_with fail
        go_ret
        exact ⟨⟨(k : Int), rfl, ⟨fun _ => HM.out, fun _ => Int.natCast_nonneg k⟩⟩, rfl⟩
      · have hb : (s.toList == x.toList) = false := by rw [str_eq]; simp [he]
        have hno2 : Hid (∀ j, j < k + 1 → xs.getD j ⟨#[]⟩ ≠ s) := fun j hj => by
          by_cases e : j < k
          · exact hno.out j e
          · obtain rfl : j = k := by omega
            rw [← HX.out]; exact fun h => he h.symm
        clear he
        go_wp2_with fail
        go_round
        case rel => exact ⟨k + 1, by omega, by go_num, hno2⟩
        case measure => simp [intOf]; omega
    · obtain rfl : k = n := by omega
      have hm : s ∉ xs := fun h => by
        obtain ⟨i, hi, e⟩ := List.getElem_of_mem h
        refine hno.out i (by have := HN.out; omega) ?_
        simp [List.getD, hi, e]
      have HM := Lib.hid hm
      clear hm
      go_wp2_with fail
      go_ret
      exact ⟨⟨(-1 : Int), rfl, ⟨fun h => absurd h (by decide), fun h => absurd h HM.out⟩⟩, rfl⟩

set_option maxRecDepth 100000 in
theorem contains_any (v : Value) (xs : List ByteArray) (s : ByteArray) (w : World) (h : Strs w v xs) :
    Calls Tryz.prog 90 #[v, .string s] w fun e w' => e = .returned (.bool (memS s xs)) ∧ w = w' := by
  obtain ⟨b, hb⟩ : ∃ b, b = memS s xs := ⟨_, rfl⟩
  rw [← hb]
  have HS := Lib.hid h; have HB := Lib.hid hb
  obtain ⟨a, c, rfl, _, _⟩ := h.form
  clear h hb
  go_enter Tryz.func90, Tryz.ntmps90
  go_wp2_with fail
  refine (index_any _ xs s w HS.out).mono ?_
  rintro e w' ⟨⟨r, rfl, hr⟩, rfl⟩
  have hbr : decide ((0 : Int) ≤ r) = b := by rw [HB.out, Bool.eq_iff_iff, decide_eq_true_iff, memS_iff]; exact hr
  clear hr
  by_cases h0 : (0 : Int) ≤ r
  · have hbt : b = true := by rw [← hbr]; simp [h0]
    clear hbr
    go_wp2_with fail
    go_ret
    exact ⟨by first | rfl | (rw [hbt]; rfl) | (simp [hbt, h0]; done), rfl⟩
  · have hbt : b = false := by rw [← hbr]; simp [h0]
    clear hbr
    go_wp2_with fail
    go_ret
    exact ⟨by first | rfl | (rw [hbt]; rfl) | (simp [hbt, h0]; done), rfl⟩
end Go.Proofs.YtnnakllgfaaejaaGreatDoor
