import Derived.Test.YtjglnpijngdpkaaGreatDoorDyAI
import Derived.Test.YtjglnpijngdpkaaGreatDoorGP
import Derived.Test.YtjglnpijngdpkaaGreatDoorDyW
import Derived.Test.YtjglnpijngdpkaaGreatDoorGApp
/-
  Days: the text of a span.
-/
namespace Go.Proofs.YtjglnpijngdpkaaGreatDoor
open Go.RowKit Go.Shelf
set_option linter.unusedSimpArgs false
set_option linter.unusedVariables false
set_option maxRecDepth 100000

/-- Bytes in memory. -/
def E8 : REnc UInt8 := ⟨fun b => [.int .u8 (b.toNat : Int)], 1, 0, fun _ => rfl, fun x v h => by simp at h; subst h; rfl, by omega⟩
theorem flat8 (l : List UInt8) : flatG E8 l = Lib.byteCells l := by
  unfold flatG Lib.byteCells
  induction l with
  | nil => rfl
  | cons x t ih => rw [List.flatMap_cons, ih]; rfl
theorem info_u8d : (Tryz.prog.info? 5).map (fun i => (i.zero, i.size, i.bytes)) = some (some (.int .u8 0), E8.z, 1) := by kernel_rfl
/-- A row of bytes of one's own. -/
def Own8 (B : Nat) (w : World) (v : Value) (xs : List UInt8) : Prop := OwnG E8 5 B w v xs
theorem Own8.of {B n : Nat} {w : World} {v : Value} {xs : List UInt8} (h : w.ownsRow B 5 1 v n (Lib.byteCells xs)) (hn : n = xs.length) : Own8 B w v xs := by
  subst hn
  unfold Own8 OwnG
  rw [flat8]; exact h
theorem Own8.row {B : Nat} {w : World} {v : Value} {xs : List UInt8} (h : Own8 B w v xs) : w.ownsRow B 5 1 v xs.length (Lib.byteCells xs) := by
  unfold Own8 OwnG at h
  rw [flat8] at h; exact h
theorem OthersKept.boxD {e t : TypeId} {W W' : World} (h : Lib.OthersKept e none W W') {k : Nat} {cs : Array Value} {fz : Nat × Nat} (hk : W.heap[k]? = some (.cells cs t fz)) (ht : t ≠ e) : W'.heap[k]? = some (.cells cs t fz) :=
  h k _ hk (by simp) (fun c f e2 => by cases e2; exact ht rfl)
theorem tab_onD {P : Program} {B B' : Nat} {w W : World} {name : String} {k : IntKind} {zs : List Int} (h : Lib.TabBelow P B w name k zs) (hb : Below B w W) (hB : B ≤ B') : Lib.TabBelow P B' W name k zs :=
  fun w' h' => h w' (hb.trans (h'.mono hB))
theorem own8_notbox {B k : Nat} {w : World} {v : Value} {xs : List UInt8} {cs : Array Value} {t : TypeId} {fz : Nat × Nat} (h : Own8 B w v xs) (hk : w.heap[k]? = some (.cells cs t fz)) (ht : t ≠ 5) : v.ownBlock ≠ some k := fun e => by
  rcases h.2 with ⟨rfl, _⟩ | ⟨g, cap, cur, rfl, _, hg, _⟩
  · cases e
  · have : g = k := by simpa [Value.ownBlock] using e
    subst this
    rw [hg] at hk
    cases hk
    exact ht rfl
theorem below_kept {B : Nat} {w w' : World} {S : Nat → Prop} (h : Kept S w w') (hS : ∀ k, S k → B ≤ k) (hB : B ≤ w.heap.size) : Below B w w' :=
  ⟨h.os, h.tape, h.output, h.size, fun k hk => h.block k (by omega) (fun e => by have := hS k e; omega)⟩
theorem cells_at {w : World} {k : Nat} {a b : Value} {t : TypeId} (h : w.heap[k]? = some (.cells #[a, b] t (0, 0))) : w.cell? ⟨k, 0, none⟩ = some a ∧ w.cell? ⟨k, 1, none⟩ = some b := by
  constructor <;> simp [World.cell?, h]

set_option maxHeartbeats 3200000 in
theorem appendTo_any (w : World) (B : Nat) (v : Value) (xs : List UInt8) (pf pt : Int) (hp : okSp (pf, pt)) (hown : Own8 B w v xs) (hB : B ≤ w.heap.size) (hl : xs.length ≤ 900000)
    (htab : Lib.TabBelow Tryz.prog B w "internal/strconv.uint64pow10" .u64 Lib.pow10Tab) :
    Calls Tryz.prog 33 #[.agg #[.int .i64 pf, .int .i64 pt], v] w fun e w' => ∃ v', e = .returned v' ∧ Own8 B w' v' (xs ++ spanT (pf, pt)) ∧ Below B w w' := by
  obtain ⟨o1, o2, o3⟩ := hp
  simp only at o1 o2 o3
  have hb1 : Below B w (w.alloc (.cells #[.int .i64 pf, .int .i64 pt] 49)) := (Below.refl B w).alloc hB _
  have hA := sh_AppendInt B xs.length pf (by omega) (by omega) v (Lib.byteCells xs) _ (Own8.row (OwnG.alloc hown (.cells #[.int .i64 pf, .int .i64 pt] 49))) (by simp; omega) (by omega) (tab_onD htab hb1 (Nat.le_refl _))
  have hbox : (w.alloc (.cells #[.int .i64 pf, .int .i64 pt] 49)).heap[w.heap.size]? = some (.cells #[.int .i64 pf, .int .i64 pt] 49 (0, 0)) := heap_alloc_new w _
  obtain ⟨va, vc, rfl, _, _⟩ := hown.form
  obtain ⟨W1, hW1⟩ : ∃ W1, W1 = w.alloc (.cells #[.int .i64 pf, .int .i64 pt] 49) := ⟨_, rfl⟩
  have c0 : W1.cell? ⟨w.heap.size, 0, none⟩ = some (.int .i64 pf) := by rw [hW1]; exact (cells_at hbox).1
  have HA := Lib.hid hA; have HBX := Lib.hid hbox; have HB1 := Lib.hid hb1; have HTAB := Lib.hid htab
  have hBH := hB
  have HW1 := Lib.hid hW1
  clear hA hbox hb1 htab hown hB
  go_enter Tryz.func33, Tryz.ntmps33
  rw [← hW1] at HA HBX HB1
  clear hW1
  go_wp2_with fail
  rw [← HW1.out]
  refine HA.out.mono ?_
  rintro e W2 ⟨v2, rfl, ho2, hb2, hk2⟩
  have hi5 := itoa_len5 pf o1 (by omega)
  have ho3 : Own8 B W2 v2 (xs ++ Lib.itoa pf) := Own8.of (n := xs.length + (Lib.itoa pf).length) (by rw [show Lib.byteCells (xs ++ Lib.itoa pf) = Lib.byteCells xs ++ Lib.byteCells (Lib.itoa pf) by simp [Lib.byteCells]]; exact ho2) (by rw [List.length_append])
  obtain ⟨ys, hys⟩ : ∃ ys, ys = xs ++ Lib.itoa pf := ⟨_, rfl⟩
  have hyl : ys.length ≤ 900005 := by rw [hys, List.length_append]; omega
  rw [← hys] at ho3
  have hST : xs ++ spanT (pf, pt) = ys ++ (if pf = pt then [] else 45 :: (if pt = 30000 then [] else Lib.itoa pt)) := by rw [hys, List.append_assoc]; rfl
  have hbx2 := OthersKept.boxD hk2 HBX.out (show (49 : TypeId) ≠ 5 by decide)
  obtain ⟨d0, d1⟩ := cells_at hbx2
  obtain ⟨a2, c2, rfl, _, _⟩ := ho3.form
  have hB2 : B ≤ W2.heap.size := by have := hb2.size; have := HB1.out.size; omega
  have HO3 := Lib.hid ho3; have HB2 := Lib.hid (HB1.out.trans hb2); have HBX2 := Lib.hid hbx2
  have HST := Lib.hid hST
  clear ho2 ho3 hb2 hk2 hbx2 hys HA HBX HB1 c0 hi5 hST
  by_cases he : pf = pt
  · subst he
    go_wp2_with fail
    go_ret
    exact ⟨_, rfl, by have h9 := HST.out; simp only [if_true, List.append_nil] at h9; rw [h9]; exact HO3.out, HB2.out⟩
  · have he2 : (pf == pt) = false := by rw [beq_eq_false_iff_ne]; exact he
    have HY : Hid (RowG E8 (W2.alloc (.cells #[.int .u8 45] 5)) (.slice (some ⟨W2.heap.size, 0, none⟩) ([45] : List UInt8).length 1) [45]) := Lib.hid (RowG.new W2 #[.int .u8 45] 5 1 [45] rfl rfl (by unfold maxLen; omega))
    have hHl : w.heap.size < W2.heap.size := (Array.getElem?_eq_some_iff.1 HBX2.out).1
    have hPU := appendG_grown Tryz.underlying52 info_u8d rfl (by omega) (OwnG.alloc HO3.out (.cells #[.int .u8 45] 5)) HY.out (by rw [show ([45] : List UInt8).length = 1 from rfl]; omega) (by decide) (by rw [World.size_alloc]; omega)
    obtain ⟨g4, c4, w4, hr4, hown4, hgrow4, hloc4⟩ := hPU
    have hbx4 : w4.heap[w.heap.size]? = some (.cells #[.int .i64 pf, .int .i64 pt] 49 (0, 0)) :=
      (hgrow4.block w.heap.size (by simp; omega) (fun e => own8_notbox HO3.out HBX2.out (by decide) e.symm)).trans ((heap_alloc_old W2 _ hHl).trans HBX2.out)
    obtain ⟨f0, f1⟩ := cells_at hbx4
    have hb4 : Below B w w4 := (HB2.out.trans ((Below.refl B W2).alloc hB2 _)).grown hgrow4 (by have := HB2.out.size; simp at *; omega) (fun k e => (HO3.out.lt k e).1)
    have hal : (ys ++ [45]).length = ys.length + 1 := by rw [List.length_append]; rfl
    rw [hal] at hr4 hown4
    rw [show ([45] : List UInt8).length = 1 from rfl] at hr4
    have HR4 := Lib.hid hr4; have HO4 : Hid (Own8 B w4 (.slice (some ⟨g4, 0, none⟩) (ys.length + 1) c4) (ys ++ [45])) := Lib.hid hown4
    have HB4 := Lib.hid hb4
    have hB4 : B ≤ w4.heap.size := by have := hb4.size; omega
    clear hown4 hgrow4 hloc4 hbx4 hb4 HY hr4
    by_cases h3 : pt = 30000
    · have h4 : (pt == 30000) = true := by rw [h3]; rfl
      go_wp2_with (at_builtin; refine wpList_appendG_run (by simp [Region.wanted, yielded]) _ _ _ _ rfl _ _ rfl rfl HR4.out ?_)
      go_ret
      exact ⟨_, rfl, by rw [HST.out, if_neg he, if_pos h3]; exact HO4.out, HB4.out⟩
    · have h4 : (pt == 30000) = false := by rw [beq_eq_false_iff_ne]; exact h3
      have hC := sh_AppendInt B (ys.length + 1) pt (by omega) (by omega) (.slice (some ⟨g4, 0, none⟩) (ys.length + 1) c4) (Lib.byteCells (ys ++ [45])) w4 (by have h9 := Own8.row HO4.out; rw [hal] at h9; exact h9) hB4 (by omega) (tab_onD HTAB.out HB4.out (Nat.le_refl _))
      have HC := Lib.hid hC
      clear hC
      go_wp2_with (first
        | (at_builtin; refine wpList_appendG_run (by simp [Region.wanted, yielded]) _ _ _ _ rfl _ _ rfl rfl HR4.out ?_)
        | fail)
      refine HC.out.mono ?_
      rintro e W5 ⟨v5, rfl, ho5, hb5, _⟩
      have ho6 : Own8 B W5 v5 (ys ++ [45] ++ Lib.itoa pt) := Own8.of (n := ys.length + 1 + (Lib.itoa pt).length) (by rw [show Lib.byteCells (ys ++ [45] ++ Lib.itoa pt) = Lib.byteCells (ys ++ [45]) ++ Lib.byteCells (Lib.itoa pt) by simp [Lib.byteCells]]; exact ho5) (by rw [List.length_append, hal])
      have HO6 := Lib.hid ho6; have HB6 := Lib.hid (HB4.out.trans hb5)
      clear ho5 ho6 hb5 HC
      go_wp2_with fail
      go_ret
      exact ⟨_, rfl, by rw [HST.out, if_neg he, if_neg h3]; rw [show ys ++ 45 :: Lib.itoa pt = ys ++ [45] ++ Lib.itoa pt by simp]; exact HO6.out, HB6.out⟩
end Go.Proofs.YtjglnpijngdpkaaGreatDoor
