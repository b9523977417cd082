/-
  Tables of names in memory: names.New, Len, Number, maps.Copy, slices.Clone, put.
-/
import Derived.Test.YtneappinkfhjmaaDoorNamV
import Derived.Maps.Own
import Derived.Maps.OwnSet
import Derived.Maps.OwnOps
import Derived.Maps.RangeWalk
import Derived.Maps.Ext
import Derived.Laws.BytesArg
import Derived.StillTailTactics
namespace Go.Proofs.YtneappinkfhjmaaDoor
open Go.RowKit Go.Maps Go.WideMaps Go.ChangeMaps

theorem lawS : Keyed Tryd.prog 9 := string_keyed Tryd.underlying9
theorem zeroI (w : World) : (zeroValue 3).run Tryd.prog w = .ok (.int .i64 0) w := by kernel_rfl
theorem info_str : (Tryd.prog.info? 9).map (fun i => (i.zero, i.size, i.bytes)) = some (some (.string ⟨#[]⟩), 1, 16) := by kernel_rfl

/-- The place of a string in a list, from 1 on; 0: it is not there. -/
def posS : List ByteArray → ByteArray → Nat
  | [], _ => 0
  | x :: xs, s => if s.toList == x.toList then 1 else if posS xs s = 0 then 0 else posS xs s + 1
theorem posS_zero (s : ByteArray) : ∀ xs : List ByteArray, posS xs s = 0 ↔ s ∉ xs
  | [] => by simp [posS]
  | x :: xs => by
    have ih := posS_zero s xs
    rw [posS, str_eq]
    by_cases h : s = x
    · simp [h]
    · by_cases h2 : posS xs s = 0
      · simp [h, h2, ih.1 h2]
      · have := Classical.not_not.1 ((not_congr ih).1 h2)
        simp [h, h2, this]
theorem posS_le (s : ByteArray) : ∀ xs : List ByteArray, posS xs s ≤ xs.length
  | [] => by simp [posS]
  | x :: xs => by
    have ih := posS_le s xs
    rw [posS, List.length_cons]
    split
    · omega
    · split <;> omega
theorem posS_snoc_self (s : ByteArray) : ∀ xs : List ByteArray, posS xs s = 0 → posS (xs ++ [s]) s = xs.length + 1
  | [], _ => by simp [posS]
  | x :: xs, h => by
    rw [posS] at h
    have hx : (s.toList == x.toList) = false := by
      cases e : (s.toList == x.toList) with
      | false => rfl
      | true => rw [e] at h; simp at h
    have h0 : posS xs s = 0 := by
      rw [hx] at h
      by_cases e : posS xs s = 0
      · exact e
      · rw [if_neg (by decide), if_neg e] at h; omega
    have ih := posS_snoc_self s xs h0
    rw [List.cons_append, posS, hx, ih]
    simp
theorem posS_snoc_other {s y : ByteArray} (hne : s ≠ y) : ∀ xs : List ByteArray, posS (xs ++ [y]) s = posS xs s
  | [] => by simp [posS, str_eq, hne]
  | x :: xs => by
    have ih := posS_snoc_other hne xs
    rw [List.cons_append, posS, posS, ih]

/-- What a table's map says: the numbers of the names. -/
def MapOk (D : DataW Unit) (xs : List ByteArray) : Prop :=
  ∀ s : ByteArray, Maps.has D (.string s.data.toList) = decide (0 < posS xs s) ∧ (D.atKey (.string s.data.toList) (.lit (.int .i64 0)) = .lit (.int .i64 (posS xs s : Nat)))

theorem key_ne {s y : ByteArray} (h : s ≠ y) : Lit.string s.data.toList ≠ Lit.string y.data.toList := fun e => by
  injection e with e
  exact h (by cases s; cases y; simp only [ByteArray.mk.injEq]; exact Array.ext' e)

theorem MapOk.nil : MapOk (.map []) [] := fun s => ⟨by simp [posS, Maps.has], by simp [posS]; rfl⟩
theorem MapOk.put {D : DataW Unit} {xs : List ByteArray} {y : ByteArray} (h : MapOk D xs) (hD : IsMap D) (h0 : posS xs y = 0) : MapOk (D.put (.string y.data.toList) (.lit (.int .i64 (xs.length + 1 : Nat)))) (xs ++ [y]) := fun s => by
  by_cases e : s = y
  · subst e
    rw [posS_snoc_self s xs h0]
    exact ⟨by rw [has_put_same (k := .string s.data.toList) hD trivial]; simp, by rw [atKey_put_same (k := .string s.data.toList) hD trivial]⟩
  · rw [posS_snoc_other e, has_put_other (key_ne e), atKey_put_other (key_ne e)]
    exact h s

/-- A table in memory: its names' row, its map. -/
structure TabAt (w : World) (g : Nat) (xs : List ByteArray) (v : Value) (m n : Nat) (D : DataW Unit) : Prop where
  c0 : w.cell? ⟨g, 0, none⟩ = some v
  c1 : w.cell? ⟨g, 1, none⟩ = some (.map (some m))
  f0 : w.frozen? ⟨g, 0, none⟩ = false
  row : w.ownsRow 0 9 1 v xs.length (xs.map Value.string)
  map : w.ownsMap Tryd.prog 9 (plainElem Tryd.prog 3) m n D
  ok : MapOk D xs
  nle : n ≤ xs.length
  le : xs.length ≤ 256
  short : ∀ x ∈ xs, x.size ≤ 12
  lt : g < w.heap.size
  ap1 : v.ownBlock ≠ some g
  ap2 : m ≠ g
  ap3 : v.ownBlock ≠ some m

theorem ownsMap_kept {S : Nat → Prop} {a b : World} {m n : Nat} {D : DataW Unit} (h : a.ownsMap Tryd.prog 9 (plainElem Tryd.prog 3) m n D) (hk : Kept S a b) (hn : ¬ S m) : b.ownsMap Tryd.prog 9 (plainElem Tryd.prog 3) m n D := by
  have hlt := h.lt
  obtain ⟨es, clock, h1, h2⟩ := h
  exact ⟨es, clock, (hk.block m hlt hn).trans h1, h2⟩

theorem TabAt.kept {S : Nat → Prop} {a b : World} {g : Nat} {xs : List ByteArray} {v : Value} {m n : Nat} {D : DataW Unit} (h : TabAt a g xs v m n D) (hk : Kept S a b) (h1 : ¬ S g) (h2 : ∀ k, v.ownBlock = some k → ¬ S k) (h3 : ¬ S m) : TabAt b g xs v m n D :=
  ⟨(hk.cell (p := ⟨g, 0, none⟩) h.lt h1).trans h.c0, (hk.cell (p := ⟨g, 1, none⟩) h.lt h1).trans h.c1, (hk.frozen (p := ⟨g, 0, none⟩) h.lt h1).trans h.f0, hk.owns h.row h2, ownsMap_kept h.map hk h3, h.ok, h.nle, h.le, h.short,
    Nat.lt_of_lt_of_le h.lt hk.size, h.ap1, h.ap2, h.ap3⟩
theorem TabAt.stay {a b : World} {g : Nat} {xs : List ByteArray} {v : Value} {m n : Nat} {D : DataW Unit} (h : TabAt a g xs v m n D) (hk : Kept (fun _ => False) a b) : TabAt b g xs v m n D := h.kept hk (fun h => h) (fun _ _ h => h) (fun h => h)

theorem strs_own {w : World} {B : Nat} {v : Value} {xs : List ByteArray} (h : w.ownsRow B 9 1 v xs.length (xs.map Value.string)) : Strs w v xs := by
  have hc := fun g (hg : v.ownBlock = some g) => h.cells hg
  rcases h.2 with ⟨h1, h0⟩ | ⟨g, cap, cur, h1, hb, hg, hn, hm, _⟩
  · exact Or.inl ⟨h1, List.length_eq_zero_iff.1 h0⟩
  · subst h1
    refine Or.inr ⟨g, 0, cap, rfl, hn, hm, (Array.getElem?_eq_some_iff.1 hg).1, fun i hi => ?_⟩
    have := hc g rfl i (.string (xs.getD i ⟨#[]⟩)) (by simp [List.getD, hi])
    have hadd : (⟨g, 0, none⟩ : Addr).add i = ⟨g, 0 + i, none⟩ := by unfold Addr.add; split <;> simp_all
    rwa [hadd] at this

set_option maxRecDepth 100000 in
theorem tnew_any (w : World) : Calls Tryd.prog 13 #[] w fun e w' => e = .returned (.pointer (some ⟨w.heap.size + 1, 0, none⟩)) ∧ TabAt w' (w.heap.size + 1) [] (.slice none 0 0) w.heap.size 0 (.map []) ∧ Kept (fun _ => False) w w' ∧ w'.heap.size = w.heap.size + 2 := by
  have hmm := @run_makeMap Tryd.prog
  have s1 : (w.alloc (.map #[] 0)).heap.size = w.heap.size + 1 := by simp
  have hm0 := World.ownsMap_made (H := Unit) w Tryd.prog 9 (plainElem Tryd.prog 3)
  have hk1 := Kept.alloc (fun _ => False) w (.map #[] 0)
  have hk2 := Kept.alloc (fun _ => False) (w.alloc (.map #[] 0)) (.cells #[.slice none 0 0, .map (some w.heap.size)] 91)
  have ht : TabAt ((w.alloc (.map #[] 0)).alloc (.cells #[.slice none 0 0, .map (some w.heap.size)] 91)) (w.heap.size + 1) [] (.slice none 0 0) w.heap.size 0 (.map []) := by
    refine ⟨?_, ?_, ?_, World.ownsRow_nil _ _ _ _, ownsMap_kept hm0 hk2 (fun h => h), MapOk.nil, Nat.le_refl _, by simp, by simp, by simp, by simp [Value.ownBlock], by omega, by simp [Value.ownBlock]⟩
    · rw [← s1]; rw [cell_of_row _ _ 0 _ _ (0, 0) (heap_alloc_new _ _)]; rfl
    · rw [← s1]; rw [cell_of_row _ _ 1 _ _ (0, 0) (heap_alloc_new _ _)]; rfl
    · rw [← s1]; exact frozen_of_row _ _ 0 _ _ (heap_alloc_new _ _)
  have HT := Lib.hid ht; have HK := Lib.hid (hk1.then hk2)
  clear ht hk1 hk2 hm0
  go_enter Tryd.func13, Tryd.ntmps13
  go_wp2_with fail
  go_ret
  exact ⟨by first | rfl | simp, by first | exact HT.out | simpa using HT.out, HK.out, by simp⟩

set_option maxRecDepth 100000 in
theorem tlen_any (w : World) (g : Nat) (xs : List ByteArray) (v : Value) (m n : Nat) (D : DataW Unit) (h : TabAt w g xs v m n D) :
    Calls Tryd.prog 60 #[.pointer (some ⟨g, 0, none⟩)] w fun e w' => e = .returned (.int .i64 (xs.length : Nat)) ∧ w = w' := by
  obtain ⟨a, c, hf, _, _⟩ := (strs_own h.row).form
  have c0 := h.c0
  subst hf
  clear h
  go_enter Tryd.func60, Tryd.ntmps60
  go_wp2_with fail
  go_ret
  exact ⟨rfl, rfl⟩

set_option maxRecDepth 100000 in
theorem tnumber_any (s : ByteArray) (w : World) (g : Nat) (xs : List ByteArray) (v : Value) (m n : Nat) (D : DataW Unit) (h : TabAt w g xs v m n D) (hs : s.size ≤ maxLen) :
    Calls Tryd.prog 108 #[.pointer (some ⟨g, 0, none⟩), .string s] w fun e w' => e = .returned (.tuple #[.int .i64 (posS xs s : Nat), .bool (decide (0 < posS xs s))]) ∧ w = w' := by
  have hkey := keyOf_string_mk Tryd.underlying9 hs
  have c1 := h.c1
  have hown := h.map
  obtain ⟨hh, ha⟩ := h.ok s
  have HH := Lib.hid hh; have HA := Lib.hid ha
  clear h hh ha
  go_enter Tryd.func108, Tryd.ntmps108
  go_wp2_with (first
    | (at_lookup; refine wpList_lookup_own_ok_int _ rfl _ _ 89 rfl 9 3 .i64 lawS Tryd.underlying89 Tryd.underlying3 (zeroI _) m n D rfl hown _ _ rfl hkey ?_; intro c hat hwc; rw [HA.out] at hat; injection hat with hat; injection hat with hq hat; rw [HH.out]; subst hat)
    | go_in)
  go_ret2
  exact ⟨rfl, rfl⟩
end Go.Proofs.YtneappinkfhjmaaDoor
