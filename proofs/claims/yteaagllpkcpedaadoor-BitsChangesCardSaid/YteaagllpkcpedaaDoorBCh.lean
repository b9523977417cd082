/-
  arbaclaw01.BitsChanges: the walk. Made by mk_bch.py.
-/
import Derived.Test.YteaagllpkcpedaaDoorBAw
import Derived.Test.YteaagllpkcpedaaDoorBBx
import Derived.Test.YteaagllpkcpedaaDoorBRx
import Derived.Test.YteaagllpkcpedaaDoorBWp
import Derived.Deep.RegionHeld3
import Derived.Deep.Cut
import Derived.Deep.CutRange
namespace Go.Proofs.YteaagllpkcpedaaDoor
open Go.RowKit
set_option linter.unusedSimpArgs false
set_option linter.unusedVariables false

theorem filter_single (M : Nat) (x : Int) : (memM M 4096).filter (fun y => !decide (y ∈ [x])) = memM (subM M x) 4096 := by
  unfold subM
  split
  · rename_i h
    have e : memM (2 ^ x.toNat) 4096 = [x] := by
      refine (memM_is (by simp) fun y => ?_).symm
      rw [Nat.testBit_two_pow]
      simp only [List.mem_singleton, decide_eq_true_eq]
      omega
    rw [← e, filter_not]
  · rename_i h
    rw [List.filter_eq_self]
    intro y hy
    have := memM_mem.1 hy
    simp only [List.mem_singleton, Bool.not_eq_true', decide_eq_false_iff_not]
    omega
theorem memM_has {M : Nat} {i : Int} : decide (i ∈ memM M 4096) = (decide (0 ≤ i ∧ i ≤ 4095) && M.testBit i.toNat) := by
  by_cases h : i ∈ memM M 4096
  · obtain ⟨a, b, c⟩ := memM_mem.1 h
    rw [decide_eq_true h, c, decide_eq_true (by omega)]; rfl
  · rw [decide_eq_false h]
    by_cases hr : 0 ≤ i ∧ i ≤ 4095
    · cases hb : M.testBit i.toNat with
      | false => simp
      | true => exact absurd (memM_mem.2 ⟨hr.1, by omega, hb⟩) h
    · rw [decide_eq_false hr]; rfl
theorem setv_lt {w : World} {v : Value} {M : Nat} (h : SetV w v M) : ∀ k, setBlk v k → k < w.heap.size := by
  rintro k ⟨lo, hv', he', hb⟩
  obtain ⟨hv, hs, rfl, hw, _, _⟩ := h.ex
  cases he'
  exact hw.lt k hb
theorem kwa {w W : World} {o : Obj} (h : Kept (fun _ => False) w W) : Kept (fun _ => False) w (W.alloc o) := h.then (Kept.alloc _ _ _)
theorem kws {w W : World} {b j : Nat} {x : Value} (h : Kept (fun _ => False) w W) (hb : w.heap.size ≤ b) : Kept (fun _ => False) w (W.setCell ⟨b, j, none⟩ x) :=
  h.trans (Kept.setCell (fun k => k = b) W ⟨b, j, none⟩ x rfl) (fun _ _ h => h) (fun i hi e => by omega)
theorem setv_al {W : World} {v : Value} {M : Nat} {o : Obj} (h : SetV W v M) : SetV (W.alloc o) v M := h.onC (Kept.alloc _ _ _)
theorem setv_kept {S : Nat → Prop} {a b : World} {v : Value} {M : Nat} (h : SetV a v M) (hk : Kept S a b) (hn : ∀ k, setBlk v k → ¬ S k) : SetV b v M := by
  obtain ⟨hv, hs, rfl, hw, hc, hnil⟩ := h.ex
  exact ⟨⟨hv, hs, rfl, hw.kept hk (fun k hk' => hn k ⟨_, _, rfl, hk'⟩), hc, hnil⟩⟩
theorem setv_set {W : World} {v x : Value} {M b j : Nat} (h : SetV W v M) (hn : ∀ q, setBlk v q → q ≠ b) : SetV (W.setCell ⟨b, j, none⟩ x) v M :=
  setv_kept h (Kept.setCell (fun k => k = b) W ⟨b, j, none⟩ x rfl) (fun k hk e => hn k hk e)
/-- A box that may be written to. -/
structure BoxW (W : World) (p lo : Nat) (x : Value) : Prop where
  box : BoxAt W p lo x
  f0 : W.frozen? ⟨p, 0, none⟩ = false
  f1 : W.frozen? ⟨p, 1, none⟩ = false
theorem BoxW.onC {W W' : World} {p lo : Nat} {x : Value} (h : BoxW W p lo x) (hk : Kept (fun _ => False) W W') : BoxW W' p lo x :=
  ⟨h.box.onC hk, (hk.frozen (p := ⟨p, 0, none⟩) (World.block_lt_of_cell? W ⟨p, 0, none⟩ h.box.c0) (fun h => h)).trans h.f0, (hk.frozen (p := ⟨p, 1, none⟩) (show p < W.heap.size from World.block_lt_of_cell? W ⟨p, 0, none⟩ h.box.c0) (fun h => h)).trans h.f1⟩
theorem BoxW.c0 {W : World} {p lo : Nat} {x : Value} (h : BoxW W p lo x) : W.cell? ⟨p, 0, none⟩ = some (.int .u64 (lo : Int)) := h.box.c0
theorem BoxW.c1 {W : World} {p lo : Nat} {x : Value} (h : BoxW W p lo x) : W.cell? ⟨p, 1, none⟩ = some x := h.box.c1
theorem BoxW.lt {W : World} {p lo : Nat} {x : Value} (h : BoxW W p lo x) : p < W.heap.size := World.block_lt_of_cell? W _ h.box.c0
theorem BoxW.new (w : World) (la : Nat) (pa : Option Addr) (na ca : Nat) : BoxW (w.alloc (.cells #[.int .u64 la, .slice pa na ca] 28)) w.heap.size la (.slice pa na ca) :=
  ⟨⟨by go_simp, by go_simp⟩, by go_simp, by go_simp⟩

theorem szd0 {w : World} {q : Nat} (h : w.drew.heap.size ≤ q) : w.heap.size ≤ q := h
theorem sza1 {w : World} {o : Obj} {q : Nat} (h : (w.alloc o).heap.size ≤ q) : w.heap.size + 1 ≤ q := by rw [World.size_alloc] at h; exact h
theorem szd1 {w : World} {o : Obj} {q : Nat} (h : (w.alloc o).drew.heap.size ≤ q) : w.heap.size + 1 ≤ q := sza1 h
theorem sza2 {w : World} {o o' : Obj} {q : Nat} (h : ((w.alloc o).alloc o').heap.size ≤ q) : w.heap.size + 2 ≤ q := by rw [World.size_alloc, World.size_alloc] at h; exact h
theorem szd2 {w : World} {o o' : Obj} {q : Nat} (h : ((w.alloc o).alloc o').drew.heap.size ≤ q) : w.heap.size + 2 ≤ q := sza2 h
theorem tmod2 (x : Int) : x.tmod 2 = 0 ∨ x.tmod 2 = 1 ∨ x.tmod 2 = -1 := by
  by_cases hx0 : 0 ≤ x
  · rw [Int.tmod_eq_emod_of_nonneg hx0]; omega
  · have h2 : x.tmod 2 = -((-x).tmod 2) := by rw [Int.neg_tmod, Int.neg_neg]
    rw [Int.tmod_eq_emod_of_nonneg (a := -x) (b := 2) (by omega)] at h2
    omega
theorem boxp {W : World} {p1 p l : Nat} {v a b : Value} (h : BoxAt W p1 l v) (hn : p1 ≠ p) : BoxAt ((W.setCell ⟨p, 0, none⟩ a).setCell ⟨p, 1, none⟩ b) p1 l v :=
  (h.on (Kept.setCell (fun k => k = p) W ⟨p, 0, none⟩ a rfl) hn).on (Kept.setCell (fun k => k = p) _ ⟨p, 1, none⟩ b rfl) hn
theorem storeP {W : World} {p lo : Nat} {v : Value} (h : BoxW W p lo v) (l : Nat) (y : Value) : BoxW ((W.setCell ⟨p, 0, none⟩ (.int .u64 (l : Int))).setCell ⟨p, 1, none⟩ y) p l y := by
  obtain ⟨⟨c0, c1⟩, f0, f1⟩ := h
  exact ⟨⟨by go_simp, by go_simp⟩, by go_simp, by go_simp⟩
theorem keptP (W : World) (p l : Nat) (y : Value) : Kept (fun k => k = p) W ((W.setCell ⟨p, 0, none⟩ (.int .u64 (l : Int))).setCell ⟨p, 1, none⟩ y) :=
  (Kept.setCell (fun k => k = p) W ⟨p, 0, none⟩ _ rfl).trans (Kept.setCell (fun k => k = p) _ ⟨p, 1, none⟩ _ rfl) (fun _ _ h => h) (fun _ _ h => h)
theorem newz (w : World) : BoxW (w.alloc (.cells #[.int .u64 0, .slice none 0 0] 28)) w.heap.size 0 (.slice none 0 0) :=
  ⟨⟨by go_simp, by go_simp⟩, by go_simp, by go_simp⟩
theorem newz2 (w : World) : BoxW ((w.alloc (.cells #[.int .u64 0, .slice none 0 0] 28)).alloc (.cells #[.int .u64 0, .slice none 0 0] 28)) (w.heap.size + 1) 0 (.slice none 0 0) :=
  ⟨⟨by go_simp, by go_simp⟩, by go_simp, by go_simp⟩
theorem box2a (w : World) (la lb : Nat) (pa pb : Option Addr) (na ca nb cb : Nat) :
    BoxAt ((w.alloc (.cells #[.int .u64 la, .slice pa na ca] 28)).alloc (.cells #[.int .u64 lb, .slice pb nb cb] 28)) w.heap.size la (.slice pa na ca) := (box2 w la lb pa pb na ca nb cb).1
theorem box2b (w : World) (la lb : Nat) (pa pb : Option Addr) (na ca nb cb : Nat) :
    BoxAt ((w.alloc (.cells #[.int .u64 la, .slice pa na ca] 28)).alloc (.cells #[.int .u64 lb, .slice pb nb cb] 28)) (w.heap.size + 1) lb (.slice pb nb cb) := (box2 w la lb pa pb na ca nb cb).2.1

set_option maxRecDepth 100000 in
set_option maxHeartbeats 25600000 in
theorem changes_law (w : World) (va vb : Value) (xs ys : List Int) (i : Int) (ha : Ints w va xs) (hb : Ints w vb ys) (hL : Libs w) :
    Calls Tryd.prog 4 #[va, vb, .int .i64 i] w fun e w' => e = .returned (.bool true) ∧ Kept (fun _ => False) w w' := by
  have HL := Lib.hid hL; have HA := Lib.hid ha; have HB := Lib.hid hb
  clear hL ha hb
  go_enter Tryd.func4, Tryd.ntmps4
  go_wp2_with fail
  refine (aw_any w HL.out).mono ?_
  rintro e wa ⟨rfl, k1⟩
  have KK := Lib.hid k1
  clear k1
  go_wp2_with fail
  refine (few_any _ _ xs (HA.out.kept KK.out (fun _ _ h => h))).mono ?_
  rintro e wf ⟨ua, rfl, hi, rfl⟩
  have HX := Lib.hid hi
  have hxl : (xs.take 60).length ≤ 60 := by simp; omega
  have HXL := Lib.hid hxl
  clear hi hxl
  go_wp2_with fail
  refine (few_any _ _ ys (HB.out.kept KK.out (fun _ _ h => h))).mono ?_
  rintro e wf ⟨ub, rfl, hi, rfl⟩
  have HY := Lib.hid hi
  have HYA0 := Lib.hid hi
  have KB := Lib.hid (Kept.refl (fun _ => False) wa)
  have hyl : (ys.take 60).length ≤ 60 := by simp; omega
  have HYL := Lib.hid hyl
  clear hi hyl HA HB
  generalize xs.take 60 = X at HX HXL
  generalize ys.take 60 = Y at HY HYA0 HYL
  obtain ⟨ya, yc, rfl⟩ := HY.out.form
  have HYA := Lib.hid HY.out.at
  have hylen : Y.length ≤ 9223372036854775807 := HY.out.len
  clear HY HYA0
  go_wp2_with fail
  refine (of_any _ _ X HX.out).mono ?_
  rintro e w1 ⟨s1, rfl, hs, hsb, k1⟩
  have Hs := Lib.hid hs
  obtain ⟨la, pa, na, ca, rfl⟩ := hs.form
  have HSB := Lib.hid hsb
  have hlt1 := setv_lt hs
  replace HX := Lib.hid (HX.out.kept k1 (fun _ _ h => h))
  replace KB := Lib.hid (KB.out.then k1)
  replace KK := Lib.hid (KK.out.then k1)
  clear hs hsb k1
  have SA := Lib.hid (maskOf_small X)
  go_wp2_with fail
  refine (rof_any _ _ X HX.out (by have := HXL.out; omega)).mono ?_
  rintro e w3 ⟨u3, rfl, hu, k3⟩
  rw [ofL_mask] at hu
  have hut : ∀ q, u3.ownBlock = some q → q < w3.heap.size := fun q hq => (hu.own.lt q hq).2
  have HUT := Lib.hid hut
  have Ht := Lib.hid hu.ints
  have HLT : Hid (∀ q, setBlk (.agg #[.int .u64 (la : Int), .slice pa na ca]) q → q < w3.heap.size) := fun q hq => Nat.lt_of_lt_of_le (hlt1 q hq) k3.size
  replace Hs := Lib.hid (Hs.out.onC k3)
  replace KB := Lib.hid (KB.out.then k3)
  replace KK := Lib.hid (KK.out.then k3)
  clear hu hut hlt1 HSB HX HXL k3
  obtain ⟨A, hA⟩ : ∃ A, A = maskOf X := ⟨_, rfl⟩
  rw [← hA] at Hs Ht SA
  clear hA
  go_wp2_with fail
  have BN := Lib.hid (BoxW.new w3 la pa na ca)
  have k4 := Kept.alloc (fun _ => False) w3 (.cells #[.int .u64 la, .slice pa na ca] 28)
  replace Hs := Lib.hid (Hs.out.onC k4)
  replace Ht := Lib.hid (Ht.out.kept k4 (fun _ _ h => h))
  have HPW : Hid (w.heap.size ≤ w3.heap.size ∧ wa.heap.size ≤ w3.heap.size) := ⟨KK.out.size, KB.out.size⟩
  replace KB := Lib.hid (KB.out.then k4)
  replace KK := Lib.hid (KK.out.then k4)
  have HNE : Hid ((∀ q, setBlk (.agg #[.int .u64 (la : Int), .slice pa na ca]) q → q ≠ w3.heap.size) ∧ (∀ q, u3.ownBlock = some q → q ≠ w3.heap.size)) :=
    ⟨fun q hq e => by have := HLT.out q hq; omega, fun q hq e => by have := HUT.out q hq; omega⟩
  clear k4 HLT HUT
  generalize w3.alloc (.cells #[.int .u64 la, .slice pa na ca] 28) = w4 at Hs Ht KB KK BN ⊢
  generalize w3.heap.size = p at BN HNE HPW ⊢
  go_wp2_with fail
  go_loopw [8, 25] (fun tv iv wr => ∃ (k T : Nat), k ≤ Y.length ∧ iv = .int .i64 k ∧ Hid (Small T) ∧ Hid (Ints wr tv (memM T 4096)) ∧ (∃ (lo : Nat) (qa : Option Addr) (n c : Nat), Hid (SetV wr (.agg #[.int .u64 (lo : Int), .slice qa n c]) T) ∧ Hid (BoxW wr p lo (.slice qa n c)) ∧ Hid ((∀ q, setBlk (.agg #[.int .u64 (lo : Int), .slice qa n c]) q → q ≠ p) ∧ (∀ q, tv.ownBlock = some q → q ≠ p))) ∧ Hid (Kept (fun _ => False) w wr) ∧ Hid (Kept (fun _ => False) wa wr)) (fun _ iv _ => Y.length - (intOf iv).toNat)
  case atStart => exact ⟨0, A, Nat.zero_le _, rfl, SA, Ht, ⟨la, pa, na, ca, Hs, BN, HNE⟩, KK, KB⟩
  case round =>
    obtain ⟨k, T, hk, rfl, ST, Ht, ⟨lo, qa, n, c, Hs, Bs, HNE⟩, KK, KB⟩ := hrel
    have hTl : (memM T 4096).length ≤ 4096 := memM_le _ _
    have HTL := Lib.hid hTl
    clear hTl
    by_cases hlt : k < Y.length
    · have hlt' : (k : Int) < (Y.length : Int) := by omega
      obtain ⟨g, off, rfl, hc⟩ := HYA.out k hlt
      obtain ⟨x, hx⟩ : ∃ x, x = Y.getD k 0 := ⟨_, rfl⟩
      rw [← hx] at hc
      have ck := hc wr KB.out
      clear hx hc
      go_wp2_with fail
      have k9 := (Kept.refl (fun _ => False) wr).drew
      go_cut [11, 12, 25] from 25 to 68 (fun xv yv iv wx => ∃ (p1 p2 lx nx cx ly ny cy : Nat) (px py : Option Addr), xv = .pointer (some ⟨p1, 0, none⟩) ∧ yv = .pointer (some ⟨p2, 0, none⟩) ∧ iv = .int .i64 k ∧ Hid (BoxAt wx p1 lx (.slice px nx cx)) ∧ Hid (BoxAt wx p2 ly (.slice py ny cy)) ∧ p1 ≠ p ∧ p2 ≠ p ∧ Hid (SetV wx (.agg #[.int .u64 (lx : Int), .slice px nx cx]) (addM T x)) ∧ Hid (SetV wx (.agg #[.int .u64 (ly : Int), .slice py ny cy]) (subM T x)) ∧ Hid (∀ q, setBlk (.agg #[.int .u64 (lx : Int), .slice px nx cx]) q → q ≠ p) ∧ Hid (∀ q, setBlk (.agg #[.int .u64 (ly : Int), .slice py ny cy]) q → q ≠ p) ∧ Hid (Kept (fun _ => False) wr wx))
      case first =>
        have HSB : Hid (∀ q, setBlk (.agg #[.int .u64 (lo : Int), .slice qa n c]) q → q < wr.heap.size) := setv_lt Hs.out
        have hpl := Bs.out.lt
        have B0 := (Bs.out.onC k9).box
        obtain ⟨s0, s1⟩ := B0
        clear k9
        go_region_held3 (fun w' => w'.cell? ⟨p, 0, none⟩ = some (.int .u64 (lo : Int)) ∧ w'.cell? ⟨p, 1, none⟩ = some (.slice qa n c))
          (first | exact ⟨(Bs.out.onC (by repeat' (first | exact K2.out | exact K1.out | exact Kept.refl _ _ | exact (Kept.refl _ _).drew | exact (kwa (Kept.refl _ _)).drew | exact (kwa (kwa (Kept.refl _ _))).drew | apply kwa | refine kws ?_ (by omega)))).c0, (Bs.out.onC (by repeat' (first | exact K2.out | exact K1.out | exact Kept.refl _ _ | exact (Kept.refl _ _).drew | exact (kwa (Kept.refl _ _)).drew | exact (kwa (kwa (Kept.refl _ _))).drew | apply kwa | refine kws ?_ (by omega)))).c1⟩)
          ((first | (have _m := M1; go_at_call 17; with_reducible refine (without_any _ _ T x (Hs.out.onC (by first | exact K1.out | exact kwa K1.out | exact kwa (kwa K1.out))) ST.out).mono ?_; rintro e w2 ⟨v2, rfl, hx1, hb1, k1⟩; have K2 := Lib.hid (show Kept (fun _ => False) wr w2 from Kept.then (by first | exact K1.out | exact kwa K1.out | exact kwa (kwa K1.out)) k1); have lw1 := setv_lt hx1; (first | (have Y1 := Lib.hid (((newz2 w1)).onC k1); have Y0 := Lib.hid ((((newz w1).onC (Kept.alloc _ _ _))).onC k1); have HVY := Lib.hid (show ∀ q, setBlk v2 q → q < wr.heap.size ∨ (w1.heap.size + 2 ≤ q ∧ q < w2.heap.size) from fun q hq => (hb1 q hq).elim (fun h => Or.inl (HSB.out q h)) (fun h => Or.inr ⟨(by first | exact h | exact szd0 h | exact szd1 h | exact szd2 h | exact sza1 h | exact sza2 h), lw1 q hq⟩))) | (have Y0 := Lib.hid (((newz w1)).onC k1); have HVY := Lib.hid (show ∀ q, setBlk v2 q → q < wr.heap.size ∨ (w1.heap.size + 1 ≤ q ∧ q < w2.heap.size) from fun q hq => (hb1 q hq).elim (fun h => Or.inl (HSB.out q h)) (fun h => Or.inr ⟨(by first | exact h | exact szd0 h | exact szd1 h | exact szd2 h | exact sza1 h | exact sza2 h), lw1 q hq⟩))) | (have HVY := Lib.hid (show ∀ q, setBlk v2 q → q < wr.heap.size ∨ (w1.heap.size ≤ q ∧ q < w2.heap.size) from fun q hq => (hb1 q hq).elim (fun h => Or.inl (HSB.out q h)) (fun h => Or.inr ⟨(by first | exact h | exact szd0 h | exact szd1 h | exact szd2 h | exact sza1 h | exact sza2 h), lw1 q hq⟩)))); have BLY := Lib.hid (show ∀ q, setBlk v2 q → q ≠ p from fun q hq => (hb1 q hq).elim (fun h => HNE.out.1 q h) (fun h => by have h3 := Nat.le_trans (Kept.size (show Kept (fun _ => False) wr _ from (by first | exact K1.out | exact kwa K1.out | exact kwa (kwa K1.out)))) h; omega)); have KM := Lib.hid (show Kept (fun _ => False) w1 w2 from by first | exact k1 | exact Kept.then (Kept.alloc _ _ _) k1 | exact Kept.then (Kept.then (Kept.alloc _ _ _) (Kept.alloc _ _ _)) k1); obtain ⟨ly, py, ny, cy, rfl⟩ := hx1.form; have Hy := Lib.hid hx1; replace Hx := Lib.hid (Hx.out.onC KM.out); have sz2 := K2.out.size; have sz12 := KM.out.size; clear hx1 hb1 k1 lw1; (try (have lz0 := Z0.out.lt)); (try (have lz1 := Z1.out.lt)); (try replace Z0 := Lib.hid (Z0.out.onC KM.out)); (try replace Z1 := Lib.hid (Z1.out.onC KM.out)); (try obtain ⟨⟨Z0a, Z0b⟩, Z0c, Z0d⟩ := Z0.out); (try obtain ⟨⟨Z1a, Z1b⟩, Z1c, Z1d⟩ := Z1.out); (try obtain ⟨⟨Y0a, Y0b⟩, Y0c, Y0d⟩ := Y0.out); (try obtain ⟨⟨Y1a, Y1b⟩, Y1c, Y1d⟩ := Y1.out); (try (have lzz0 := Z0.out.lt)); (try (have lzz1 := Z1.out.lt)); (try (have ly0 := Y0.out.lt)); (try (have ly1 := Y1.out.lt)); (try (have nq : ¬ wr.heap.size = w1.heap.size := by omega)); (try (have nq : ¬ w1.heap.size = wr.heap.size := by omega)); (try (have nq : ¬ wr.heap.size = w2.heap.size := by omega)); (try (have nq : ¬ w2.heap.size = wr.heap.size := by omega)); (try (have nq : ¬ w1.heap.size = w2.heap.size := by omega)); (try (have nq : ¬ w2.heap.size = w1.heap.size := by omega)); have M2 : True := trivial) | (go_at_call 16; with_reducible refine (withI_any _ _ T x (Hs.out.onC (by first | exact (Kept.refl _ _).drew | exact (kwa (Kept.refl _ _)).drew | exact (kwa (kwa (Kept.refl _ _))).drew)) ST.out).mono ?_; rintro e w1 ⟨v1, rfl, hx1, hb1, k1⟩; have K1 := Lib.hid (show Kept (fun _ => False) wr w1 from Kept.then (by first | exact (Kept.refl _ _).drew | exact (kwa (Kept.refl _ _)).drew | exact (kwa (kwa (Kept.refl _ _))).drew) k1); have lw1 := setv_lt hx1; (first | (have Z1 := Lib.hid (((newz2 wr).onC (Kept.refl _ _).drew).onC k1); have Z0 := Lib.hid ((((newz wr).onC (Kept.alloc _ _ _)).onC (Kept.refl _ _).drew).onC k1); have HVX := Lib.hid (show ∀ q, setBlk v1 q → q < wr.heap.size ∨ (wr.heap.size + 2 ≤ q ∧ q < w1.heap.size) from fun q hq => (hb1 q hq).elim (fun h => Or.inl (HSB.out q h)) (fun h => Or.inr ⟨(by first | exact h | exact szd0 h | exact szd1 h | exact szd2 h | exact sza1 h | exact sza2 h), lw1 q hq⟩))) | (have Z0 := Lib.hid (((newz wr).onC (Kept.refl _ _).drew).onC k1); have HVX := Lib.hid (show ∀ q, setBlk v1 q → q < wr.heap.size ∨ (wr.heap.size + 1 ≤ q ∧ q < w1.heap.size) from fun q hq => (hb1 q hq).elim (fun h => Or.inl (HSB.out q h)) (fun h => Or.inr ⟨(by first | exact h | exact szd0 h | exact szd1 h | exact szd2 h | exact sza1 h | exact sza2 h), lw1 q hq⟩))) | (have HVX := Lib.hid (show ∀ q, setBlk v1 q → q < wr.heap.size ∨ (wr.heap.size ≤ q ∧ q < w1.heap.size) from fun q hq => (hb1 q hq).elim (fun h => Or.inl (HSB.out q h)) (fun h => Or.inr ⟨(by first | exact h | exact szd0 h | exact szd1 h | exact szd2 h | exact sza1 h | exact sza2 h), lw1 q hq⟩)))); have BLX := Lib.hid (show ∀ q, setBlk v1 q → q ≠ p from fun q hq => (hb1 q hq).elim (fun h => HNE.out.1 q h) (fun h => by have h3 := Nat.le_trans (Kept.size (show Kept (fun _ => False) wr _ from (by first | exact (Kept.refl _ _).drew | exact (kwa (Kept.refl _ _)).drew | exact (kwa (kwa (Kept.refl _ _))).drew))) h; omega)); obtain ⟨lx, px, nx, cx, rfl⟩ := hx1.form; have Hx := Lib.hid hx1; have sz1 := K1.out.size; clear hx1 hb1 k1 lw1; have M1 : True := trivial)))
        all_goals
          clear s0 s1
          go_wp2_with fail
          go_meet
          exact ⟨_, _, lx, nx, cx, ly, ny, cy, px, py, rfl, rfl, rfl, ⟨by go_simp, by go_simp⟩, ⟨by go_simp, by go_simp⟩, by omega, by omega, (show SetV _ _ _ from by repeat' (first | exact Hx.out | apply setv_al | refine setv_set ?_ (fun q hq => by rcases HVX.out q hq with h | h <;> omega))), (show SetV _ _ _ from by repeat' (first | exact Hy.out | apply setv_al | refine setv_set ?_ (fun q hq => by rcases HVY.out q hq with h | h <;> omega))), BLX, BLY, (show Kept _ _ _ from by repeat' (first | exact K2.out | exact K1.out | exact Kept.refl _ _ | exact (Kept.refl _ _).drew | exact (kwa (Kept.refl _ _)).drew | exact (kwa (kwa (Kept.refl _ _))).drew | apply kwa | refine kws ?_ (by omega)))⟩
      case rest =>
        obtain ⟨p1, p2, lx, nx, cx, ly, ny, cy, px, py, rfl, rfl, rfl, Bx, By, hp1, hp2, Hx, Hy, BLX, BLY, k8⟩ := hcut
        have k8' := k8.out
        clear k8
        replace Hs := Lib.hid (Hs.out.onC k8')
        replace Ht := Lib.hid (Ht.out.kept k8' (fun _ _ h => h))
        replace Bs := Lib.hid (Bs.out.onC k8')
        replace KK := Lib.hid (KK.out.then k8')
        replace KB := Lib.hid (KB.out.then k8')
        clear k8'
        have HIT := Lib.hid (fun W : World => it_lit W #[.int .i64 x] 3 [x] 1 rfl rfl (by simp [maxLen]))
        have KR := Lib.hid ((Kept.refl (fun _ => False) wc).drew)
        go_wp2_with fail
        go_cut [25, 55] from 25 to 68 (fun iv rv wx => iv = .int .i64 k ∧ rv = .bool false ∧ Hid (Kept (fun _ => False) wc wx))
        case first =>
          have k9 := (Kept.refl (fun _ => False) wc).drew
          replace Hs := Lib.hid (Hs.out.onC k9)
          replace Hx := Lib.hid (Hx.out.onC k9)
          replace Hy := Lib.hid (Hy.out.onC k9)
          replace Ht := Lib.hid (Ht.out.kept k9 (fun _ _ h => h))
          replace Bs := Lib.hid (Bs.out.onC k9)
          replace Bx := Lib.hid (Bx.out.onC k9)
          replace By := Lib.hid (By.out.onC k9)
          replace KK := Lib.hid (KK.out.then k9)
          replace KB := Lib.hid (KB.out.then k9)
          clear k9
          obtain ⟨s0, s1⟩ := Bs.out.box
          obtain ⟨x0, x1⟩ := Bx.out
          obtain ⟨y0, y1⟩ := By.out
          go_region_held3 (fun w' => w'.cell? ⟨p, 0, none⟩ = some (.int .u64 (lo : Int)) ∧ w'.cell? ⟨p, 1, none⟩ = some (.slice qa n c) ∧ w'.cell? ⟨p1, 0, none⟩ = some (.int .u64 (lx : Int)) ∧ w'.cell? ⟨p1, 1, none⟩ = some (.slice px nx cx) ∧ w'.cell? ⟨p2, 0, none⟩ = some (.int .u64 (ly : Int)) ∧ w'.cell? ⟨p2, 1, none⟩ = some (.slice py ny cy))
            (first | exact ⟨Bs.out.c0, Bs.out.c1, Bx.out.c0, Bx.out.c1, By.out.c0, By.out.c1⟩ | exact ⟨(Bs.out.onC (Kept.alloc _ _ _)).c0, (Bs.out.onC (Kept.alloc _ _ _)).c1, (Bx.out.onC (Kept.alloc _ _ _)).c0, (Bx.out.onC (Kept.alloc _ _ _)).c1, (By.out.onC (Kept.alloc _ _ _)).c0, (By.out.onC (Kept.alloc _ _ _)).c1⟩ | exact ⟨(Bs.out.onC ((Kept.alloc _ _ _).then (Kept.alloc _ _ _))).c0, (Bs.out.onC ((Kept.alloc _ _ _).then (Kept.alloc _ _ _))).c1, (Bx.out.onC ((Kept.alloc _ _ _).then (Kept.alloc _ _ _))).c0, (Bx.out.onC ((Kept.alloc _ _ _).then (Kept.alloc _ _ _))).c1, (By.out.onC ((Kept.alloc _ _ _).then (Kept.alloc _ _ _))).c0, (By.out.onC ((Kept.alloc _ _ _).then (Kept.alloc _ _ _))).c1⟩)
            ((first | (have _m := N4; go_at_call 11; with_reducible refine (is_any _ _ _ T Hs.out ST.out Ht.out (HL.out.kept KK.out).tz).mono ?_; rintro e w5 ⟨rfl, k5⟩; replace Hs := Lib.hid (Hs.out.onC k5); replace Hx := Lib.hid (Hx.out.onC k5); replace Hy := Lib.hid (Hy.out.onC k5); replace Ht := Lib.hid (Ht.out.kept k5 (fun _ _ h => h)); replace Bs := Lib.hid (Bs.out.onC k5); replace Bx := Lib.hid (Bx.out.onC k5); replace By := Lib.hid (By.out.onC k5); replace KK := Lib.hid (KK.out.then k5); replace KB := Lib.hid (KB.out.then k5); replace KR := Lib.hid (KR.out.then k5); clear k5; have N5 : True := trivial) | (have _m := N3; go_at_call 11; with_reducible refine (is_any _ _ _ (subM T x) Hy.out (small_sub ST.out) Hi2.out (HL.out.kept KK.out).tz).mono ?_; rintro e w4 ⟨rfl, k4⟩; replace Hs := Lib.hid (Hs.out.onC k4); replace Hx := Lib.hid (Hx.out.onC k4); replace Hy := Lib.hid (Hy.out.onC k4); replace Ht := Lib.hid (Ht.out.kept k4 (fun _ _ h => h)); replace Hi2 := Lib.hid (Hi2.out.kept k4 (fun _ _ h => h)); replace Bs := Lib.hid (Bs.out.onC k4); replace Bx := Lib.hid (Bx.out.onC k4); replace By := Lib.hid (By.out.onC k4); replace KK := Lib.hid (KK.out.then k4); replace KB := Lib.hid (KB.out.then k4); replace KR := Lib.hid (KR.out.then k4); clear k4; clear Hi2; have N4 : True := trivial) | (have _m := N2; go_at_call 19; with_reducible refine (rminus_any _ _ _ (memM T 4096) [x] (Ht.out.kept (Kept.alloc (fun _ => False) w2 (.cells #[.int .i64 x] 3)) (fun _ _ h => h)) (HIT.out w2) (by have := HTL.out; omega)).mono ?_; rintro e w3 ⟨u2, rfl, hu, k0⟩; have k3 := (Kept.alloc (fun _ => False) w2 (.cells #[.int .i64 x] 3)).then k0; rw [filter_single] at hu; have Hi2 := Lib.hid hu.ints; clear hu k0; replace Hs := Lib.hid (Hs.out.onC k3); replace Hx := Lib.hid (Hx.out.onC k3); replace Hy := Lib.hid (Hy.out.onC k3); replace Ht := Lib.hid (Ht.out.kept k3 (fun _ _ h => h)); replace Bs := Lib.hid (Bs.out.onC k3); replace Bx := Lib.hid (Bx.out.onC k3); replace By := Lib.hid (By.out.onC k3); replace KK := Lib.hid (KK.out.then k3); replace KB := Lib.hid (KB.out.then k3); replace KR := Lib.hid (KR.out.then k3); clear k3; have N3 : True := trivial) | (have _m := N1; go_at_call 11; with_reducible refine (is_any _ _ _ (addM T x) Hx.out (small_add ST.out) Hi1.out (HL.out.kept KK.out).tz).mono ?_; rintro e w2 ⟨rfl, k2⟩; replace Hs := Lib.hid (Hs.out.onC k2); replace Hx := Lib.hid (Hx.out.onC k2); replace Hy := Lib.hid (Hy.out.onC k2); replace Ht := Lib.hid (Ht.out.kept k2 (fun _ _ h => h)); replace Hi1 := Lib.hid (Hi1.out.kept k2 (fun _ _ h => h)); replace Bs := Lib.hid (Bs.out.onC k2); replace Bx := Lib.hid (Bx.out.onC k2); replace By := Lib.hid (By.out.onC k2); replace KK := Lib.hid (KK.out.then k2); replace KB := Lib.hid (KB.out.then k2); replace KR := Lib.hid (KR.out.then k2); clear k2; clear Hi1; have N2 : True := trivial) | (go_at_call 18; with_reducible refine (rwith_any _ _ (memM T 4096) x Ht.out (by have := HTL.out; omega)).mono ?_; rintro e w1 ⟨u1, rfl, hu, k1⟩; rw [withL_mem] at hu; have Hi1 := Lib.hid hu.ints; clear hu; replace Hs := Lib.hid (Hs.out.onC k1); replace Hx := Lib.hid (Hx.out.onC k1); replace Hy := Lib.hid (Hy.out.onC k1); replace Ht := Lib.hid (Ht.out.kept k1 (fun _ _ h => h)); replace Bs := Lib.hid (Bs.out.onC k1); replace Bx := Lib.hid (Bx.out.onC k1); replace By := Lib.hid (By.out.onC k1); replace KK := Lib.hid (KK.out.then k1); replace KB := Lib.hid (KB.out.then k1); replace KR := Lib.hid (KR.out.then k1); clear k1; have N1 : True := trivial)))
          all_goals
            go_wp2_with fail
            go_meet
            exact ⟨rfl, rfl, KR⟩
        case rest =>
          obtain ⟨rfl, rfl, kc⟩ := hcut
          have k9 := kc.out
          clear kc KR
          replace Hs := Lib.hid (Hs.out.onC k9)
          replace Hx := Lib.hid (Hx.out.onC k9)
          replace Hy := Lib.hid (Hy.out.onC k9)
          replace Ht := Lib.hid (Ht.out.kept k9 (fun _ _ h => h))
          replace Bs := Lib.hid (Bs.out.onC k9)
          replace Bx := Lib.hid (Bx.out.onC k9)
          replace By := Lib.hid (By.out.onC k9)
          replace KK := Lib.hid (KK.out.then k9)
          replace KB := Lib.hid (KB.out.then k9)
          clear k9
          cases hpar : (x.tmod 2 == 0) with
          | true => -- even
            go_wp2_with fail
            have k9 := (Kept.refl (fun _ => False) wc).drew
            replace Hs := Lib.hid (Hs.out.onC k9)
            replace Hx := Lib.hid (Hx.out.onC k9)
            replace Hy := Lib.hid (Hy.out.onC k9)
            replace Ht := Lib.hid (Ht.out.kept k9 (fun _ _ h => h))
            replace Bs := Lib.hid (Bs.out.onC k9)
            replace Bx := Lib.hid (Bx.out.onC k9)
            replace By := Lib.hid (By.out.onC k9)
            replace KK := Lib.hid (KK.out.then k9)
            replace KB := Lib.hid (KB.out.then k9)
            clear k9
            have f0 := Bs.out.f0
            have f1 := Bs.out.f1
            obtain ⟨s0, s1⟩ := Bs.out.box
            obtain ⟨x0, x1⟩ := Bx.out
            have hpl : p < wc.heap.size := Bs.out.lt
            go_region_held3 (fun w' => w'.cell? ⟨p1, 0, none⟩ = some (.int .u64 (lx : Int)) ∧ w'.cell? ⟨p1, 1, none⟩ = some (.slice px nx cx))
              (first | exact ⟨Bx.out.c0, Bx.out.c1⟩ | exact ⟨(boxp Bx.out hp1).c0, (boxp Bx.out hp1).c1⟩)
              ((first | (go_at_call 18; with_reducible refine (rwith_any _ _ (memM T 4096) x Ht.out (by have := HTL.out; omega)).mono ?_; rintro e w1 ⟨u1, rfl, hu, k1⟩; rw [withL_mem] at hu; have HUB := Lib.hid (show ∀ q, u1.ownBlock = some q → q ≠ p from fun q hq => by have h5 := hu.lt q hq; simp at h5; omega); have Hi1 := Lib.hid hu.ints; clear hu f0 f1 s0 s1 x0 x1; replace Hs := Lib.hid (Hs.out.onC k1); replace Hx := Lib.hid (Hx.out.onC k1); replace Hy := Lib.hid (Hy.out.onC k1); replace Bs := Lib.hid (Bs.out.onC k1); replace Bx := Lib.hid (Bx.out.onC k1); replace By := Lib.hid (By.out.onC k1); replace KK := Lib.hid (KK.out.then k1); replace KB := Lib.hid (KB.out.then k1); clear k1; have f0 := Bs.out.f0; have f1 := Bs.out.f1; obtain ⟨s0, s1⟩ := Bs.out.box)))
            all_goals
              go_wp2_with fail
              go_roundw
              case rel =>
                have HF := storeP Bs.out lx (.slice px nx cx)
                have KP := keptP w1 p lx (.slice px nx cx)
                exact ⟨k + 1, (addM T x), by omega, by go_num, small_add ST.out, Hi1.out.kept KP (fun q hq e => absurd e (HUB.out q hq)), ⟨lx, px, nx, cx, setv_kept Hx.out KP (fun q hq e => absurd e (BLX.out q hq)), HF, ⟨BLX.out, HUB.out⟩⟩, KK.out.trans KP (fun _ _ h => h) (fun i hi e => by have := HPW.out.1; omega), KB.out.trans KP (fun _ _ h => h) (fun i hi e => by have := HPW.out.2; omega)⟩
              case measure => simp [intOf]; omega
          | false => -- odd
            go_wp2_with fail
            have k9 := (Kept.refl (fun _ => False) wc).drew
            replace Hs := Lib.hid (Hs.out.onC k9)
            replace Hx := Lib.hid (Hx.out.onC k9)
            replace Hy := Lib.hid (Hy.out.onC k9)
            replace Ht := Lib.hid (Ht.out.kept k9 (fun _ _ h => h))
            replace Bs := Lib.hid (Bs.out.onC k9)
            replace Bx := Lib.hid (Bx.out.onC k9)
            replace By := Lib.hid (By.out.onC k9)
            replace KK := Lib.hid (KK.out.then k9)
            replace KB := Lib.hid (KB.out.then k9)
            clear k9
            have f0 := Bs.out.f0
            have f1 := Bs.out.f1
            obtain ⟨s0, s1⟩ := Bs.out.box
            obtain ⟨x0, x1⟩ := By.out
            have hpl : p < wc.heap.size := Bs.out.lt
            have kq := Kept.alloc (fun _ => False) wc (.cells #[.int .i64 x] 3)
            have KD : Kept (fun _ => False) wc.drew (wc.alloc (.cells #[.int .i64 x] 3)).drew := ⟨kq.os, kq.tape, kq.output, kq.size, kq.block⟩
            have HKD := Lib.hid KD
            have HTd := Lib.hid (Ht.out.kept KD (fun _ _ h => h))
            have HITd := Lib.hid ((HIT.out wc).kept ((Kept.refl (fun _ => False) (wc.alloc (.cells #[.int .i64 x] 3))).drew) (fun _ _ h => h))
            clear kq KD
            go_region_held3 (fun w' => w'.cell? ⟨p2, 0, none⟩ = some (.int .u64 (ly : Int)) ∧ w'.cell? ⟨p2, 1, none⟩ = some (.slice py ny cy))
              (first | exact ⟨By.out.c0, By.out.c1⟩ | exact ⟨(By.out.onC (Kept.alloc _ _ _)).c0, (By.out.onC (Kept.alloc _ _ _)).c1⟩ | exact ⟨(boxp By.out hp2).c0, (boxp By.out hp2).c1⟩)
              ((first | (go_at_call 19; with_reducible refine (rminus_any _ _ _ (memM T 4096) [x] HTd.out HITd.out (by have := HTL.out; omega)).mono ?_; rintro e w1 ⟨u1, rfl, hu, k0⟩; rw [filter_single] at hu; have k1 := HKD.out.then k0; have HUB := Lib.hid (show ∀ q, u1.ownBlock = some q → q ≠ p from fun q hq => by have h5 := hu.lt q hq; simp at h5; omega); have Hi1 := Lib.hid hu.ints; clear hu f0 f1 s0 s1 x0 x1; clear k0; replace Hs := Lib.hid (Hs.out.onC k1); replace Hx := Lib.hid (Hx.out.onC k1); replace Hy := Lib.hid (Hy.out.onC k1); replace Bs := Lib.hid (Bs.out.onC k1); replace Bx := Lib.hid (Bx.out.onC k1); replace By := Lib.hid (By.out.onC k1); replace KK := Lib.hid (KK.out.then k1); replace KB := Lib.hid (KB.out.then k1); clear k1; have f0 := Bs.out.f0; have f1 := Bs.out.f1; obtain ⟨s0, s1⟩ := Bs.out.box)))
            all_goals
              go_wp2_with fail
              go_roundw
              case rel =>
                have HF := storeP Bs.out ly (.slice py ny cy)
                have KP := keptP w1 p ly (.slice py ny cy)
                exact ⟨k + 1, (subM T x), by omega, by go_num, small_sub ST.out, Hi1.out.kept KP (fun q hq e => absurd e (HUB.out q hq)), ⟨ly, py, ny, cy, setv_kept Hy.out KP (fun q hq e => absurd e (BLY.out q hq)), HF, ⟨BLY.out, HUB.out⟩⟩, KK.out.trans KP (fun _ _ h => h) (fun i hi e => by have := HPW.out.1; omega), KB.out.trans KP (fun _ _ h => h) (fun i hi e => by have := HPW.out.2; omega)⟩
              case measure => simp [intOf]; omega
    · have hkn : ¬ (k : Int) < (Y.length : Int) := by omega
      obtain ⟨s0, s1⟩ := Bs.out.box
      go_wp2_with fail
      refine (is_any _ _ _ T Hs.out ST.out Ht.out (HL.out.kept KK.out).tz).mono ?_
      rintro e w5 ⟨rfl, k5⟩
      clear s0 s1
      replace Hs := Lib.hid (Hs.out.onC k5)
      replace Ht := Lib.hid (Ht.out.kept k5 (fun _ _ h => h))
      replace Bs := Lib.hid (Bs.out.onC k5)
      replace KK := Lib.hid (KK.out.then k5)
      replace KB := Lib.hid (KB.out.then k5)
      clear k5
      obtain ⟨s0, s1⟩ := Bs.out.box
      go_wp2_with fail
      refine (hasI_any _ _ T i Hs.out).mono ?_
      rintro e w6 ⟨rfl, k6⟩
      clear s0 s1
      replace Hs := Lib.hid (Hs.out.onC k6)
      replace Ht := Lib.hid (Ht.out.kept k6 (fun _ _ h => h))
      replace Bs := Lib.hid (Bs.out.onC k6)
      replace KK := Lib.hid (KK.out.then k6)
      replace KB := Lib.hid (KB.out.then k6)
      clear k6
      rw [← memM_has]
      generalize hq : decide (i ∈ memM T 4096) = q
      have HQ := Lib.hid hq
      clear hq
      go_wp2_with fail
      refine (rhas_any _ _ _ i Ht.out).mono ?_
      rintro e w7 ⟨rfl, rfl⟩
      rw [HQ.out]
      go_wp2_with fail
      go_ret
      exact ⟨by simp, KK.out⟩
end Go.Proofs.YteaagllpkcpedaaDoor
