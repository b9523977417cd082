import Derived.Test.YtjglnpijngdpkaaGreatDoorGSq
import Derived.Test.YtjglnpijngdpkaaGreatDoorDyLy
import Derived.RangeFuncNested
import Derived.Deep.RegionHeld
import Derived.BigRegionIn
import Derived.Sort.BigQuietIn
import Derived.RangeFuncBox
import Derived.RangeFuncLeaves
import Derived.Shelf.Abstract
import Derived.Shelf.RegionOpen
import Derived.OwnWalkIn
import Derived.TacticsInMore
import Derived.LoopNIn
import Derived.LoopIn
import Derived.Maps.AppendAt
import Derived.Maps.OwnIn
/-
  strings.SplitSeq at a comma: the parts of a text, one after the other; what is left of the text lies in a cell of the iterator's own.
-/
namespace Go.Proofs.YtjglnpijngdpkaaGreatDoor
open Go.RowKit Go.Shelf
attribute [local go_sem] Oper.semAt_some
set_option linter.unusedSimpArgs false
set_option linter.unusedVariables false
set_option maxRecDepth 100000

abbrev PtB : Type := {x : ByteArray // x.size ≤ 1000000}
def PtB.l (x : PtB) : List UInt8 := x.1.data.toList
/-- What the iterator reads: the comma, what is left of the text, and that nothing of the comma is kept. -/
structure PtAt (W : World) (B1 B2 B3 : Nat) (r : ByteArray) : Prop where
  c1 : W.cell? ⟨B1, 0, none⟩ = some (.string ⟨#[44]⟩)
  c2 : W.cell? ⟨B2, 0, none⟩ = some (.string r)
  f2 : W.frozen? ⟨B2, 0, none⟩ = false
  c3 : W.cell? ⟨B3, 0, none⟩ = some (.int .i64 0)
theorem PtAt.blocks {a b : World} {B1 B2 B3 : Nat} {r : ByteArray} (h : PtAt a B1 B2 B3 r) (h1 : b.heap[B1]? = a.heap[B1]?) (h2 : b.heap[B2]? = a.heap[B2]?) (h3 : b.heap[B3]? = a.heap[B3]?) : PtAt b B1 B2 B3 r :=
  ⟨(World.cell?_of_block h1).trans h.c1, (World.cell?_of_block h2).trans h.c2, by have := h.f2; unfold World.frozen? at this ⊢; rw [h2]; exact this, (World.cell?_of_block h3).trans h.c3⟩
theorem PtAt.on {a b : World} {B1 B2 B3 : Nat} {r : ByteArray} (h : PtAt a B1 B2 B3 r) (hk : Kept (fun _ => False) a b) : PtAt b B1 B2 B3 r :=
  h.blocks (hk.block _ (World.block_lt_of_cell? a _ h.c1) (fun h => h)) (hk.block _ (World.block_lt_of_cell? a _ h.c2) (fun h => h)) (hk.block _ (World.block_lt_of_cell? a _ h.c3) (fun h => h))
theorem PtAt.put {a : World} {B1 B2 B3 : Nat} {r : ByteArray} (h : PtAt a B1 B2 B3 r) (h12 : B1 ≠ B2) (h32 : B3 ≠ B2) (q : ByteArray) : PtAt (a.setCell ⟨B2, 0, none⟩ (.string q)) B1 B2 B3 q := by
  obtain ⟨c1, c2, f2, c3⟩ := h
  exact ⟨(World.cell?_setCell_far _ _ _ _ (Ne.symm h12)).trans c1, by go_simp, by go_simp, (World.cell?_setCell_far _ _ _ _ (Ne.symm h32)).trans c3⟩
/-- How much is left. -/
def leftAt (W : World) (B : Nat) : Nat := match W.cell? ⟨B, 0, none⟩ with
  | some (.string r) => r.size
  | _ => 0
theorem leftAt_of {W : World} {B1 B2 B3 : Nat} {r : ByteArray} (h : PtAt W B1 B2 B3 r) : leftAt W B2 = r.size := by unfold leftAt; rw [h.c2]

set_option maxHeartbeats 3200000 in
theorem spl1_in (l B1 B2 B3 : Nat) (s : ByteArray) (Kp : World → World → Prop) (J Jx : List PtB → World → Prop) (W : World) (hs : s.size ≤ 1000000) (h12 : B1 ≠ B2) (h32 : B3 ≠ B2)
    (hY : ∀ pre (x : PtB) A, J pre A → pre.length < (splitC 44 s.data.toList).length → YieldAt Fence.wide 1 Tryz.prog l #[Value.string x.1] A fun e A' => (e = .returned (.bool true) ∧ J (pre ++ [x]) A' ∧ Kp A A') ∨ (e = .returned (.bool false) ∧ Jx (pre ++ [x]) A'))
    (hKp : ∀ a b r, Kp a b → PtAt a B1 B2 B3 r → PtAt b B1 B2 B3 r)
    (hKs : ∀ a b, Kp a b → a.heap.size ≤ b.heap.size)
    (hJ : ∀ pre A A', W.heap.size ≤ A.heap.size → J pre A → Kept (fun _ => False) A A' → J pre A')
    (hJc : ∀ pre A v, J pre A → J pre (A.setCell ⟨B2, 0, none⟩ v))
    (hA : PtAt W B1 B2 B3 s) (h0 : J [] W) :
    CallsIn Fence.wide 2 Tryz.prog 80 #[.func (.yield l) #[] #[], .pointer (some ⟨B1, 0, none⟩), .pointer (some ⟨B2, 0, none⟩), .pointer (some ⟨B3, 0, none⟩)] W fun e W' => (∃ v, e = .returned v) ∧
      ((∃ ys : List PtB, ys.map PtB.l = splitC 44 s.data.toList ∧ J ys W') ∨ (∃ pre : List PtB, pre.map PtB.l <+: splitC 44 s.data.toList ∧ Jx pre W')) := by
  have HY := Lib.hid hY; have HKP := Lib.hid hKp; have HKS := Lib.hid hKs; have HJ := Lib.hid hJ; have HJC := Lib.hid hJc; have HA := Lib.hid hA; have H0 := Lib.hid h0; have H12 := Lib.hid h12; have H32 := Lib.hid h32
  clear hY hKp hKs hJ hJc h0 h12 h32
  obtain ⟨c1, c2, f2, c3⟩ := hA
  refine callsIn_of_wp Tryz.func80 rfl trivial ?_ rfl
  simp only [Tryz.ntmps80, List.size_toArray, List.length_cons, List.length_nil, Nat.reduceAdd, Nat.reduceSub, Array.replicate_succ, Array.replicate_zero, List.push_toArray, List.append_toArray, List.nil_append, List.cons_append]
  gi_wp2
  clear c1 c2 f2 c3
  gi_loopw [7, 8] (fun iv fv wr => ∃ (rest : ByteArray) (pre : List PtB), rest.size + pre.length ≤ s.size ∧ Hid (pre.map PtB.l ++ splitC 44 rest.data.toList = splitC 44 s.data.toList) ∧ W.heap.size ≤ wr.heap.size ∧ Hid (PtAt wr B1 B2 B3 rest) ∧ Hid (J pre wr)) (fun iv fv wr => leftAt wr B2)
  case atStart => exact ⟨s, [], by simp, Lib.hid rfl, Nat.le_refl _, HA, H0⟩
  case round =>
    obtain ⟨rest, pre, hrp, hsp, hsz, hat, hj⟩ := hrel
    clear HA H0
    obtain ⟨c1, c2, f2, c3⟩ := hat.out
    have HIX := Lib.hid (fun A => sh_IdxD rest 44 A)
    have hg := Lib.indexByte_ge rest.data.toList 44
    have hcl : pre.length < (splitC 44 s.data.toList).length := by
      have e1 := congrArg List.length hsp.out
      rw [List.length_append, List.length_map] at e1
      have e2 := List.length_pos_iff.2 (splitC_ne 44 rest.data.toList)
      omega
    by_cases hno : Lib.indexByte rest.data.toList 44 = -1
    · rw [hno] at HIX
      have hspl : splitC 44 rest.data.toList = [rest.data.toList] := splitC_none fun hm => by
        obtain ⟨k, hk⟩ := List.getElem?_of_mem hm
        exact Lib.indexByte_none hno k hk
      have hsp2 : Hid ((pre ++ [(⟨rest, by omega⟩ : PtB)]).map PtB.l = splitC 44 s.data.toList) := by
        show _ = _
        rw [← hsp.out, hspl, List.map_append]; rfl
      obtain ⟨fn, tmps, assign, body, hy, hR⟩ := HY.out pre ⟨rest, by omega⟩ wr hj.out hcl
      have HPX : Hid ((pre ++ [(⟨rest, by omega⟩ : PtB)]).map PtB.l <+: splitC 44 s.data.toList) := Lib.hid (by rw [hsp2.out]; exact List.prefix_rfl)
      clear hno hg hspl hsp hat hj hcl
      gi_wp2_with (first
        | (refine ⟨trivial, ?_⟩; gi_at_call 82; refine (callsIn_wide.2 (HIX.out _)).mono ?_; rintro e w2 ⟨rfl, rfl⟩))
      refine hR.mono ?_
      rintro e W3 (⟨rfl, hJ3, hk3⟩ | ⟨rfl, hJx3⟩)
      · have HJ3 := Lib.hid hJ3
        clear hJ3 hk3 hy hR
        gi_wp2
        go_end0
        exact ⟨⟨_, rfl⟩, .inl ⟨_, hsp2.out, HJ3.out⟩⟩
      · have HX := Lib.hid hJx3
        clear hJx3 hy hR
        gi_wp2
        go_end0
        exact ⟨⟨_, rfl⟩, .inr ⟨_, HPX.out, HX.out⟩⟩
    · obtain ⟨o, ho⟩ : ∃ o : Nat, Lib.indexByte rest.data.toList 44 = (o : Int) := ⟨(Lib.indexByte rest.data.toList 44).toNat, by omega⟩
      rw [ho] at HIX
      obtain ⟨q1, _, _⟩ := index_cut ho
      have q2 : o < rest.size := q1
      have hspl := splitC_cut ho
      have hfs : (rest.extract 0 o).size ≤ 1000000 := by rw [ByteArray.size_extract]; omega
      have hbs : (rest.extract (o + 1) rest.size).size = rest.size - (o + 1) := by rw [ByteArray.size_extract]; omega
      have hsp2 : Hid ((pre ++ [(⟨rest.extract 0 o, hfs⟩ : PtB)]).map PtB.l ++ splitC 44 (rest.extract (o + 1) rest.size).data.toList = splitC 44 s.data.toList) := by
        show _ = _
        rw [← hsp.out, hspl, List.map_append, extract_back, List.append_assoc]
        show _ ++ ([(rest.extract 0 o).data.toList] ++ _) = _
        rw [extract_front]; rfl
      have HPX : Hid ((pre ++ [(⟨rest.extract 0 o, hfs⟩ : PtB)]).map PtB.l <+: splitC 44 s.data.toList) := Lib.hid ⟨_, hsp2.out⟩
      obtain ⟨fn, tmps, assign, body, hy, hR⟩ := HY.out pre ⟨rest.extract 0 o, hfs⟩ wr hj.out hcl
      have hle : ¬ (o : Int) < 0 := by omega
      have hl1 : (0 : Int) ≤ (o : Int) := by omega
      have hl2 : (o : Int) ≤ (rest.size : Int) := by omega
      have hl3 : (0 : Int) ≤ (o : Int) + 1 := by omega
      have hl4 : (o : Int) + 1 ≤ (rest.size : Int) := by omega
      have hw1 : IntKind.i64.wrap (o : Int) = (o : Int) := IntWalk.i64_in _ (by omega)
      have hw2 : IntKind.i64.wrap ((o : Int) + 1) = (o : Int) + 1 := IntWalk.i64_in _ (by omega)
      have hn1 : ((o : Int) + 1).toNat = o + 1 := by omega
      have HLT : Hid ((rest.extract (o + 1) rest.size).size + (pre ++ [(⟨rest.extract 0 o, hfs⟩ : PtB)]).length ≤ s.size ∧ (rest.extract (o + 1) rest.size).size < rest.size) := Lib.hid ⟨by rw [hbs, List.length_append]; simp; omega, by rw [hbs]; omega⟩
      have HLR := Lib.hid (leftAt_of hat.out)
      have hat3 := Lib.hid hat.out
      clear hno hg hspl hsp hat hj ho q1 hbs hcl
      gi_wp2_with (first
        | (refine ⟨trivial, ?_⟩; gi_at_call 82; refine (callsIn_wide.2 (HIX.out _)).mono ?_; rintro e w2 ⟨rfl, rfl⟩))
      refine hR.mono ?_
      rintro e W3 (⟨rfl, hJ3, hk3⟩ | ⟨rfl, hJx3⟩)
      · have ha3 := HKP.out _ _ _ hk3 hat3.out
        have hs3 : W.heap.size ≤ W3.heap.size := Nat.le_trans hsz (HKS.out _ _ hk3)
        have HJ4 := Lib.hid (HJC.out _ _ (.string (rest.extract (o + 1) rest.size)) hJ3)
        have HA4 := Lib.hid (ha3.put H12.out H32.out (rest.extract (o + 1) rest.size))
        have hs4 : W.heap.size ≤ (W3.setCell ⟨B2, 0, none⟩ (.string (rest.extract (o + 1) rest.size))).heap.size := Nat.le_trans hs3 (grownBy_setCell' W3 B2 _).size
        have HLT2 : Hid (leftAt (W3.setCell ⟨B2, 0, none⟩ (.string (rest.extract (o + 1) rest.size))) B2 < leftAt wr B2) := Lib.hid (by rw [leftAt_of HA4.out, HLR.out]; exact HLT.out.2)
        obtain ⟨d1, d2, g2, d3⟩ := ha3
        clear hJ3 hk3 hy hR hs3
        gi_wp2
        go_roundw
        case rel => exact ⟨rest.extract (o + 1) rest.size, pre ++ [⟨rest.extract 0 o, hfs⟩], HLT.out.1, hsp2, hs4, HA4, HJ4⟩
        case measure => exact HLT2.out
      · have HX := Lib.hid hJx3
        clear hJx3 hy hR
        gi_wp2
        refine bodyPost_ret (results_none rfl _ _ _) rfl ?_
        exact ⟨⟨_, rfl⟩, .inr ⟨_, HPX.out, HX.out⟩⟩
end Go.Proofs.YtjglnpijngdpkaaGreatDoor
