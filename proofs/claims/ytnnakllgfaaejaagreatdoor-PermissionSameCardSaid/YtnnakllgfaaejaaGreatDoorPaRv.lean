/-
  slices.Reverse of strings, laid; a row of one's own, turned.
-/
import Derived.Test.YtnnakllgfaaejaaGreatDoorStO
import Derived.Shelf.Slices.ReverseS
namespace Go.Proofs.YtnnakllgfaaejaaGreatDoor
open Go.RowKit Go.Shelf Go.Sort
set_option linter.unusedSimpArgs false
set_option linter.unusedVariables false
set_option maxRecDepth 100000

def laysRev_ren : Go.Shelf.Ren := ⟨fun | 17 => 54 | n => n, fun | 0 => 0 | 3 => 3 | 4 => 4 | 9 => 9 | 24 => 57 | n => n, fun | n => n⟩
theorem laysRev : Go.Proofs.Lays2.n17 Tryz.prog laysRev_ren := {
  mixed := by kernel_rfl
  f17 := Tryz.func54.trans (congrArg some (by kernel_rfl))
  t0 := Tryz.underlying0
  a0 := Tryz.isAgg0
  z0 := Tryz.sizeOf0
  v0 := Tryz.zeroValue0
  t3 := Tryz.underlying3
  a3 := Tryz.isAgg3
  z3 := Tryz.sizeOf3
  v3 := Tryz.zeroValue3
  t4 := Tryz.underlying4
  a4 := Tryz.isAgg4
  z4 := Tryz.sizeOf4
  v4 := Tryz.zeroValue4
  t9 := Tryz.underlying9
  a9 := Tryz.isAgg9
  z9 := Tryz.sizeOf9
  v9 := Tryz.zeroValue9
  t24 := Tryz.underlying57
  a24 := Tryz.isAgg57
  z24 := Tryz.sizeOf57
  v24 := Tryz.zeroValue57 }

theorem reverse_none (a : Option Addr) (c : Nat) (w : World) : Calls Tryz.prog 54 #[.slice a 0 c] w fun e w' => e = .returned (.tuple #[]) ∧ w = w' :=
  (Any.slices_Reverse_string_empty (P := Tryz.prog) (ρ := laysRev_ren) laysRev a c w).mono fun _ _ ⟨h1, h2⟩ => ⟨h1, h2.symm⟩

theorem reverse_some (w : World) (B : Nat) (g c : Nat) (acc : List ByteArray) (h : OwnS w B (.slice (some ⟨g, 0, none⟩) acc.length c) acc) :
    Calls Tryz.prog 54 #[.slice (some ⟨g, 0, none⟩) acc.length c] w fun e w' => e = .returned (.tuple #[]) ∧
      Strs w' (.slice (some ⟨g, 0, none⟩) acc.length c) acc.reverse ∧ Kept (fun k => k = g) w w' := by
  have hg : g < w.heap.size := (h.bound g rfl).2
  have hcap : acc.length ≤ c ∧ c ≤ maxLen := by
    rcases h.own.2 with ⟨e, _⟩ | ⟨g', cap, cur, e, _, _, h1, h2, _⟩
    · cases e
    · cases e; exact ⟨h1, h2⟩
  obtain ⟨L, hL⟩ : ∃ L, L = acc.map (fun s : ByteArray => s.data.toList) := ⟨_, rfl⟩
  have hval : L.map encStr = acc.map Value.string := by rw [hL, List.map_map]; rfl
  have hlen : L.length = acc.length := by rw [hL, List.length_map]
  have hH : Holds encStr w g 0 L.toArray := fun j hj => by
    have hj2 : j < L.length := by simpa using hj
    refine ⟨?_, h.own.frozenAt (0 + j)⟩
    rw [Nat.zero_add, h.own.cellAt j (by omega)]
    have e1 : L.toArray[j]! = L[j] := by simp [hj2]
    rw [e1]
    unfold sv
    rw [← hval]
    simp [hj2]
  have hm : maxLen = 9223372036854775807 := rfl
  have hS := Any.slices_Reverse_string laysRev g 0 c L w hH (by omega)
  rw [hlen] at hS
  refine hS.mono ?_
  rintro e w' ⟨rfl, n, hw⟩
  have hds : (L.reverse.toArray).size = L.toArray.size := by simp
  have hHo : Holds encStr w' g 0 L.reverse.toArray := by rw [hw]; exact holds_putRow encStr _ g 0 L.toArray _ (holds_ahead encStr w n g 0 _ hH) hds
  have hsz : w'.heap.size = w.heap.size := by rw [hw]; simp [size_putRow, Sort.ahead]
  refine ⟨rfl, ?_, ?_⟩
  · have hsl : acc.reverse.length = acc.length := List.length_reverse
    refine Or.inr ⟨g, 0, c, by rw [hsl], by rw [hsl]; exact hcap.1, hcap.2, by omega, fun i hi => ?_⟩
    have hi2 : i < L.reverse.length := by rw [List.length_reverse] at hi ⊢; omega
    rw [(hHo i (by simpa using hi2)).1]
    have e1 : L.reverse.toArray[i]! = L.reverse[i] := by rw [getElem!_pos L.reverse.toArray i (by simpa using hi2)]; rfl
    rw [e1]
    have e2 : L.reverse.map encStr = acc.reverse.map Value.string := by rw [List.map_reverse, hval, ← List.map_reverse]
    have e3 := congrArg (fun l => l[i]?) e2
    simp only [List.getElem?_map, List.getElem?_eq_getElem hi2, List.getElem?_eq_getElem hi, Option.map_some] at e3
    injection e3 with e3
    have e4 : acc.reverse.getD i ⟨#[]⟩ = acc.reverse[i] := by rw [List.getD_eq_getElem?_getD, List.getElem?_eq_getElem hi]; rfl
    first | rw [e3, e4] | (rw [e3]; exact congrArg (fun z => some (Value.string z)) e4.symm)
  · rw [hw]
    refine ⟨rfl, rfl, rfl, by simp [size_putRow, Sort.ahead], fun k hk hne => ?_⟩
    have : g ≠ k := fun e => hne e.symm
    simp [putRow, mapBlock, Sort.ahead, Array.getElem?_modify, this]
end Go.Proofs.YtnnakllgfaaejaaGreatDoor
