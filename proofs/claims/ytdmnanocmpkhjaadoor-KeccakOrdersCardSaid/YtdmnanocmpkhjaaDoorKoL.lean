/-
  arbaclaw03.KeccakOrders returns true.
-/
import Derived.Test.YtdmnanocmpkhjaaDoorKoC
import Derived.StillTailTactics
import Derived.Deep.RegionHeld3
import Derived.Deep.Cut
import Derived.Deep.CutRange
namespace Go.Proofs.YtdmnanocmpkhjaaDoor
open Go.RowKit
set_option linter.unusedVariables false
set_option linter.unusedSimpArgs false

/-- Three digests in a block of 96 bytes. -/
structure T3 (g : Nat) (x y z : List Nat) (w : World) : Prop where
  b0 : Blk w g 0 x
  b1 : Blk w g 32 y
  b2 : Blk w g 64 z
  lt : g < w.heap.size
theorem T3.kept {g : Nat} {x y z : List Nat} {S : Nat → Prop} {a b : World} (h : T3 g x y z a) (hk : Kept S a b) (hn : ¬ S g) : T3 g x y z b :=
  ⟨h.b0.kept hk h.lt hn, h.b1.kept hk h.lt hn, h.b2.kept hk h.lt hn, Nat.lt_of_lt_of_le h.lt hk.size⟩
theorem t3_new (w : World) (x y z : List Nat) (T : TypeId) (hx : x.length = 32) (hy : y.length = 32) : T3 w.heap.size x y z (w.alloc (.cells (arr8 (x ++ (y ++ z))).toArray T)) := by
  have h := blk_new w (arr8 (x ++ (y ++ z))).toArray T (x ++ (y ++ z)) (by simp)
  refine ⟨⟨fun i hi => ?_, fun i hi => ?_⟩, ⟨fun i hi => ?_, fun i hi => ?_⟩, ⟨fun i hi => ?_, fun i hi => ?_⟩, by simp⟩
  · have := h.cell i (by simp; omega)
    rw [this]
    simp [List.getD, List.getElem?_append_left, hi]
  · exact h.free i (by simp; omega)
  · have := h.cell (32 + i) (by simp; omega)
    rw [show 32 + i = 0 + (32 + i) by omega, this]
    have e : (x ++ (y ++ z))[32 + i]? = y[i]? := by
      rw [List.getElem?_append_right (by omega), List.getElem?_append_left (by omega)]
      congr 1; omega
    simp only [List.getD_eq_getElem?_getD, e]
  · have := h.free (32 + i) (by simp; omega)
    rw [show 32 + i = 0 + (32 + i) by omega]; exact this
  · have := h.cell (64 + i) (by simp; omega)
    rw [show 64 + i = 0 + (64 + i) by omega, this]
    have e : (x ++ (y ++ z))[64 + i]? = z[i]? := by
      rw [List.getElem?_append_right (by omega), List.getElem?_append_right (by omega)]
      congr 1; omega
    simp only [List.getD_eq_getElem?_getD, e]
  · have := h.free (64 + i) (by simp; omega)
    rw [show 64 + i = 0 + (64 + i) by omega]; exact this
def mixO (k : Nat) (x y : List Nat) : List Nat := x.take k ++ y.drop k
theorem mix_len {k : Nat} {x y : List Nat} (hx : x.length = 32) (hy : y.length = 32) (hk : k ≤ 32) : (mixO k x y).length = 32 := by simp [mixO]; omega
theorem mix_lt {k : Nat} {x y : List Nat} (hx : ∀ c ∈ x, c < 256) (hy : ∀ c ∈ y, c < 256) : ∀ c ∈ mixO k x y, c < 256 := fun c hc => by
  rcases List.mem_append.1 hc with h | h
  · exact hx c (List.mem_of_mem_take h)
  · exact hy c (List.mem_of_mem_drop h)
/-- The first k bytes of one digest over those of the next one. -/
theorem t3_copy1 {g k : Nat} {x y z : List Nat} {w : World} (h : T3 g x y z w) (hx : x.length = 32) (hy : y.length = 32) (hz : z.length = 32) (hk : k ≤ 32) :
    (Builtin.copy_ #[26, 26] 3 #[.slice (some ⟨g, 32, none⟩) k 32, .slice (some ⟨g, 0, none⟩) 32 32]).run Tryd.prog w = .ok (.int .i64 (k : Nat)) (w.setCells g 32 (arr8 (x.take k))) ∧
    T3 g x (mixO k x y) z (w.setCells g 32 (arr8 (x.take k))) := by
  have hl : (x.take k).length = k := by simp; omega
  have hr := run_copy8 (P := Tryd.prog) w 26 26 3 5 g 32 k 32 32 32 g 0 y (x.take k) x rfl rfl (by rw [hl]; show k = min 32 k; omega)
    (fun j hj => by rw [hl] at hj; refine ⟨by omega, ?_⟩; rw [List.getD_eq_getElem?_getD, List.getD_eq_getElem?_getD, List.getElem?_take_of_lt (by omega)]) (fun j hj => h.b0.cell j hj) 32 0 rfl h.b1 (by rw [hl]; omega)
  rw [hl] at hr
  have hb := h.b1.splice (a := 0) (c := x.take k) (by rw [hl]; omega)
  rw [hl, List.take_zero, List.nil_append, Nat.zero_add, Nat.add_zero] at hb
  have kr := KR.setCells g (arr8 (x.take k)) 32 32 64 w (by omega) (by rw [arr8_length, hl]; omega)
  exact ⟨hr, h.b0.kr kr h.lt (Or.inr (Or.inr (by omega))), hb, h.b2.kr kr h.lt (Or.inr (Or.inl (by omega))), Nat.lt_of_lt_of_le h.lt kr.kept.size⟩
theorem t3_copy2 {g k : Nat} {x y z : List Nat} {w : World} (h : T3 g x y z w) (hx : x.length = 32) (hy : y.length = 32) (hz : z.length = 32) (hk : k ≤ 32) :
    (Builtin.copy_ #[26, 26] 3 #[.slice (some ⟨g, 64, none⟩) k 32, .slice (some ⟨g, 32, none⟩) 32 32]).run Tryd.prog w = .ok (.int .i64 (k : Nat)) (w.setCells g 64 (arr8 (y.take k))) ∧
    T3 g x y (mixO k y z) (w.setCells g 64 (arr8 (y.take k))) := by
  have hl : (y.take k).length = k := by simp; omega
  have hr := run_copy8 (P := Tryd.prog) w 26 26 3 5 g 64 k 32 32 32 g 32 z (y.take k) y rfl rfl (by rw [hl]; show k = min 32 k; omega)
    (fun j hj => by rw [hl] at hj; refine ⟨by omega, ?_⟩; rw [List.getD_eq_getElem?_getD, List.getD_eq_getElem?_getD, List.getElem?_take_of_lt (by omega)]) (fun j hj => h.b1.cell j hj) 64 0 rfl h.b2 (by rw [hl]; omega)
  rw [hl] at hr
  have hb := h.b2.splice (a := 0) (c := y.take k) (by rw [hl]; omega)
  rw [hl, List.take_zero, List.nil_append, Nat.zero_add, Nat.add_zero] at hb
  have kr := KR.setCells g (arr8 (y.take k)) 64 64 96 w (by omega) (by rw [arr8_length, hl]; omega)
  exact ⟨hr, h.b0.kr kr h.lt (Or.inr (Or.inr (by omega))), h.b1.kr kr h.lt (Or.inr (Or.inr (by omega))), hb, Nat.lt_of_lt_of_le h.lt kr.kept.size⟩

theorem wpList_load_want {P : Program} {ops : Array Oper} {rest : List Oper} {o : Oper} {a : Act} {w : World} {Q : Exit → Act → World → Prop} (hw : Region.wanted o (yielded ops a.tmps) = true) (ty : TypeId) (x : Operand) (ho : o.op = .load ty x)
    (b off : Nat) (hx : a.eval x = .pointer (some ⟨b, off, none⟩)) (cs : List Value) (d : TypeDesc) (hc : w.rangeAt b off cs) (hu : P.underlying ty = some d) (hd : d.isRow = true) (hi : (P.info? ty).map (·.size) = some cs.length)
    (h : wpList P ops Q rest (a.put o.dst (.agg cs.toArray)) w) : wpList P ops Q (o :: rest) a w := by
  unfold wpList
  rw [if_pos hw]
  exact Or.inl (wp_load_mid ty x ho b off hx cs d hc hu hd hi h)

set_option maxRecDepth 100000 in
set_option maxHeartbeats 3200000 in
theorem korders_law (x y z : List Nat) (hx : x.length = 32) (hy : y.length = 32) (hz : z.length = 32) (bx : ∀ c ∈ x, c < 256) (by' : ∀ c ∈ y, c < 256) (bz : ∀ c ∈ z, c < 256) (p q : Nat) (hp : p < 256) (hq : q < 256) (w : World) (hT : KTab w) :
    Calls Tryd.prog 3 #[.agg (arr8 (x ++ (y ++ z))).toArray, .agg #[.int .u8 (p : Nat), .int .u8 (q : Nat)]] w fun e w' => e = .returned (.bool true) ∧ Kept (fun _ => False) w w' := by
  obtain ⟨k, hk⟩ : ∃ k, k = p % 33 := ⟨_, rfl⟩
  obtain ⟨m, hm⟩ : ∃ m, m = q % 33 := ⟨_, rfl⟩
  have hk3 : k ≤ 32 := by omega
  have hm3 : m ≤ 32 := by omega
  have E1 : (p : Int).tmod 33 = (k : Int) ∧ (p : Int) % 33 = (k : Int) := ⟨by rw [Int.tmod_eq_emod_of_nonneg (by omega)]; omega, by omega⟩
  have E2 : (q : Int).tmod 33 = (m : Int) ∧ (q : Int) % 33 = (m : Int) := ⟨by rw [Int.tmod_eq_emod_of_nonneg (by omega)]; omega, by omega⟩
  have s1 : (0 : Int) ≤ (k : Int) := by omega
  have s2 : (k : Int) ≤ 32 := by omega
  have s3 : (0 : Int) ≤ (m : Int) := by omega
  have s4 : (m : Int) ≤ 32 := by omega
  clear hk hm
  obtain ⟨E1a, E1b⟩ := E1
  obtain ⟨E2a, E2b⟩ := E2
  have hT3 := (t3_new w x y z 23 hx hy).kept (Kept.alloc (fun _ => False) _ (.cells #[.int .u8 (p : Nat), .int .u8 (q : Nat)] 24)) (fun h => h)
  have ha0 : ((w.alloc (.cells (arr8 (x ++ (y ++ z))).toArray 23)).alloc (.cells #[.int .u8 (p : Nat), .int .u8 (q : Nat)] 24)).cell? ⟨w.heap.size + 1, 0, none⟩ = some (.int .u8 (p : Nat)) := by go_simp
  have ha1 : ((w.alloc (.cells (arr8 (x ++ (y ++ z))).toArray 23)).alloc (.cells #[.int .u8 (p : Nat), .int .u8 (q : Nat)] 24)).cell? ⟨w.heap.size + 1, 1, none⟩ = some (.int .u8 (q : Nat)) := by go_simp
  have hkw : Kept (fun _ => False) w ((w.alloc (.cells (arr8 (x ++ (y ++ z))).toArray 23)).alloc (.cells #[.int .u8 (p : Nat), .int .u8 (q : Nat)] 24)) := (Kept.alloc _ _ _).then (Kept.alloc _ _ _)
  have HT3 := Lib.hid hT3; have HA0 := Lib.hid ha0; have HA1 := Lib.hid ha1; have HKW := Lib.hid hkw
  have HT := Lib.hid hT
  have HX := Lib.hid hx; have HY := Lib.hid hy; have HZ := Lib.hid hz; have BX := Lib.hid bx; have BY := Lib.hid by'; have BZ := Lib.hid bz
  clear hT3 ha0 ha1 hkw hT hx hy hz bx by' bz
  go_enter Tryd.func3, Tryd.ntmps3
  go_wp2_with fail
  generalize (w.alloc (.cells (arr8 (x ++ (y ++ z))).toArray 23)).alloc (.cells #[.int .u8 (p : Nat), .int .u8 (q : Nat)] 24) = w0 at HT3 HA0 HA1 HKW ⊢
  refine (awake3_any w0 (HT.out.kept HKW.out (fun _ _ h => h))).mono ?_
  rintro e w1 ⟨rfl, k1⟩
  have H1 := Lib.hid (HT3.out.kept k1 (fun h => h))
  have a0 := (k1.cell (p := ⟨w.heap.size + 1, 0, none⟩) (World.block_lt_of_cell? w0 _ HA0.out) (fun h => h)).trans HA0.out
  have a1 := (k1.cell (p := ⟨w.heap.size + 1, 1, none⟩) (World.block_lt_of_cell? w0 _ HA1.out) (fun h => h)).trans HA1.out
  have A1 := Lib.hid a1
  have K1 := Lib.hid (HKW.out.then k1)
  obtain ⟨g, hg⟩ : ∃ g, g = w.heap.size := ⟨_, rfl⟩
  rw [← hg] at a0 a1 A1 H1 ⊢
  have HG := Lib.hid hg
  clear k1 HT3 HA0 HA1 HKW hg a1
  go_wp2_with fail
  go_still_tail 7, (by kernel_rfl)
  change wpList _ _ _ _ _ w1.drew
  have C1 := t3_copy1 (w := w1.drew) (H1.out.kept ((Kept.refl (fun _ => False) _).drew) (fun h => h)) HX.out HY.out HZ.out hk3
  have C1a := Lib.hid C1.1
  have H2 := Lib.hid C1.2
  have kk := Kept.setCells g (arr8 (x.take k)) 32 w1.drew
  have a2 : (w1.drew.setCells g 32 (arr8 (x.take k))).cell? ⟨g + 1, 1, none⟩ = some (.int .u8 (q : Nat)) := (kk.cell (p := ⟨g + 1, 1, none⟩) (World.block_lt_of_cell? w1 _ A1.out) (by simp)).trans A1.out
  have K2 := Lib.hid ((K1.out.drew).trans kk (T := fun _ => False) (fun _ _ h => h) (fun i hi e => by have := HG.out; omega))
  clear C1 kk a0 A1 K1
  refine Lib.wpList_copy_run _ rfl _ _ 26 26 rfl _ _ rfl rfl C1a.out ?_
  generalize w1.drew.setCells g 32 (arr8 (x.take k)) = w2 at H2 a2 K2 ⊢
  clear C1a H1
  have HY2 := Lib.hid (mix_len (k := k) HX.out HY.out hk3)
  have BY2 := Lib.hid (mix_lt (k := k) BX.out BY.out)
  generalize mixO k x y = y2 at HY2 BY2 H2
  go_wp2_with fail
  go_still_tail 7, (by kernel_rfl)
  change wpList _ _ _ _ _ w2.drew
  have C1 := t3_copy2 (w := w2.drew) (H2.out.kept ((Kept.refl (fun _ => False) _).drew) (fun h => h)) HX.out HY2.out HZ.out hm3
  have C1a := Lib.hid C1.1
  have H3 := Lib.hid C1.2
  have kk := Kept.setCells g (arr8 (y2.take m)) 64 w2.drew
  have K3 := Lib.hid ((K2.out.drew).trans kk (T := fun _ => False) (fun _ _ h => h) (fun i hi e => by have := HG.out; omega))
  clear C1 kk a2 K2
  refine Lib.wpList_copy_run _ rfl _ _ 26 26 rfl _ _ rfl rfl C1a.out ?_
  generalize w2.drew.setCells g 64 (arr8 (y2.take m)) = w3 at H3 K3 ⊢
  clear C1a H2
  have HZ2 := Lib.hid (mix_len (k := m) HY2.out HZ.out hm3)
  have BZ2 := Lib.hid (mix_lt (k := m) BY2.out BZ.out)
  generalize mixO m y2 z = z2 at HZ2 BZ2 H3
  clear s1 s2 s3 s4 E1a E1b E2a E2b hk3 hm3 HY HZ BY BZ
  go_wp2_with fail
  have HSK : Hid (∀ W, Kept (fun _ => False) w3 W → W.rangeAt g 0 (arr8 x) ∧ W.rangeAt g 32 (arr8 y2) ∧ W.rangeAt g 64 (arr8 z2)) := fun W hW => by
    have h3 := H3.out.kept hW (fun h => h)
    exact ⟨h3.b0.get, h3.b1.get, h3.b2.get⟩
  have ku : Tryd.prog.underlying 22 = some (.array 32 5) := Tryd.underlying22
  have ki : (Tryd.prog.info? 22).map (·.size) = some 32 := by kernel_rfl
  have ki0 : (Tryd.prog.info? 22).map (·.size) = some (arr8 x).length := by rw [arr8_length, HX.out]; exact ki
  have ki1 : (Tryd.prog.info? 22).map (·.size) = some (arr8 y2).length := by rw [arr8_length, HY2.out]; exact ki
  have ki2 : (Tryd.prog.info? 22).map (·.size) = some (arr8 z2).length := by rw [arr8_length, HZ2.out]; exact ki
  have kj : (Tryd.prog.info? 27).map (·.size) = some 32 := by kernel_rfl
  have kj0 : (Tryd.prog.info? 27).map (·.size) = some (arr8 x).length := by rw [arr8_length, HX.out]; exact kj
  have kj1 : (Tryd.prog.info? 27).map (·.size) = some (arr8 y2).length := by rw [arr8_length, HY2.out]; exact kj
  have kj2 : (Tryd.prog.info? 27).map (·.size) = some (arr8 z2).length := by rw [arr8_length, HZ2.out]; exact kj
  have o0 := arr8_one x
  have o1 := arr8_one y2
  have o2 := arr8_one z2
  have l0 : (arr8 x).length = 32 := by rw [arr8_length, HX.out]
  have l1 : (arr8 y2).length = 32 := by rw [arr8_length, HY2.out]
  have l2 : (arr8 z2).length = 32 := by rw [arr8_length, HZ2.out]
  simp only [Act.put, List.getElem_toArray, List.getElem_cons_succ, List.getElem_cons_zero, List.setIfInBounds_toArray, List.set_cons_zero, List.set_cons_succ]
  go_cut [5, 6, 7] from 27 to 32 (fun u5 u6 u7 wx => ∃ b5 b6 b7 : Nat, u5 = .pointer (some ⟨b5, 0, none⟩) ∧ u6 = .pointer (some ⟨b6, 0, none⟩) ∧ u7 = .pointer (some ⟨b7, 0, none⟩) ∧ Hid (Blk wx b5 0 x) ∧ Hid (Blk wx b6 0 y2) ∧ Hid (Blk wx b7 0 z2) ∧ b5 < wx.heap.size ∧ b6 < wx.heap.size ∧ b7 < wx.heap.size ∧ Hid (Kept (fun _ => False) w3 wx))
  case first =>
    refine wp_region_held_drew (S := fun W => Kept (fun _ => False) w3 W) (by kernel_rfl) (Kept.refl _ _).drew (fun hHeld => ?_)
    have W0z : Hid (Kept (fun _ => False) w3 w3.drew) := hHeld
    generalize w3.drew = Wa at hHeld W0z ⊢
    refine wpAnyH_take (i := 0) (v := .pointer (some ⟨g, 0, none⟩)) rfl (by kernel_rfl) (by kernel_rfl) (by kernel_rfl) (fun _ _ _ h => h) (Or.inl ⟨by simp [Region.wanted, yielded], fun W hW => by go_simp⟩) (by assumption) ?_
    try (simp only [Act.put, List.getElem_toArray, List.getElem_cons_succ, List.getElem_cons_zero, List.setIfInBounds_toArray, List.set_cons_zero, List.set_cons_succ])
    refine wpAnyH_take (i := 1) (v := .agg (arr8 x).toArray) rfl (by kernel_rfl) (by kernel_rfl) (by kernel_rfl) (fun _ _ _ h => h) (yieldsIf_load_mid (by simp [Region.wanted, yielded]) _ _ rfl g 0 rfl (arr8 x) _ (fun W hW => (HSK.out W hW).1) ku rfl ki0) (by assumption) ?_
    try (simp only [Act.put, List.getElem_toArray, List.getElem_cons_succ, List.getElem_cons_zero, List.setIfInBounds_toArray, List.set_cons_zero, List.set_cons_succ])
    refine wpAnyH_take (i := 2) (v := .pointer (some ⟨g, 32, none⟩)) rfl (by kernel_rfl) (by kernel_rfl) (by kernel_rfl) (fun _ _ _ h => h) (Or.inl ⟨by simp [Region.wanted, yielded], fun W hW => by go_simp⟩) (by assumption) ?_
    try (simp only [Act.put, List.getElem_toArray, List.getElem_cons_succ, List.getElem_cons_zero, List.setIfInBounds_toArray, List.set_cons_zero, List.set_cons_succ])
    refine wpAnyH_take (i := 3) (v := .agg (arr8 y2).toArray) rfl (by kernel_rfl) (by kernel_rfl) (by kernel_rfl) (fun _ _ _ h => h) (yieldsIf_load_mid (by simp [Region.wanted, yielded]) _ _ rfl g 32 rfl (arr8 y2) _ (fun W hW => (HSK.out W hW).2.1) ku rfl ki1) (by assumption) ?_
    try (simp only [Act.put, List.getElem_toArray, List.getElem_cons_succ, List.getElem_cons_zero, List.setIfInBounds_toArray, List.set_cons_zero, List.set_cons_succ])
    refine wpAnyH_take (i := 4) (v := .pointer (some ⟨g, 64, none⟩)) rfl (by kernel_rfl) (by kernel_rfl) (by kernel_rfl) (fun _ _ _ h => h) (Or.inl ⟨by simp [Region.wanted, yielded], fun W hW => by go_simp⟩) (by assumption) ?_
    try (simp only [Act.put, List.getElem_toArray, List.getElem_cons_succ, List.getElem_cons_zero, List.setIfInBounds_toArray, List.set_cons_zero, List.set_cons_succ])
    refine wpAnyH_take (i := 5) (v := .agg (arr8 z2).toArray) rfl (by kernel_rfl) (by kernel_rfl) (by kernel_rfl) (fun _ _ _ h => h) (yieldsIf_load_mid (by simp [Region.wanted, yielded]) _ _ rfl g 64 rfl (arr8 z2) _ (fun W hW => (HSK.out W hW).2.2) ku rfl ki2) (by assumption) ?_
    try (simp only [Act.put, List.getElem_toArray, List.getElem_cons_succ, List.getElem_cons_zero, List.setIfInBounds_toArray, List.set_cons_zero, List.set_cons_succ])
    refine wpAnyH_ready (rs := [6, 7, 8]) (by kernel_rfl) (by simp) ?_
    refine AllReadyH.cons (o := _) rfl (fun K hK => ?_) ?_
    · go_simp
      have hb : Blk (Wa.alloc (.cells (arr8 (List.replicate 32 0)).toArray 27)) Wa.heap.size 0 (List.replicate 32 0) := blk_new Wa _ _ _ rfl
      have hk : Kept (fun _ => False) Wa (Wa.alloc (.cells (arr8 (List.replicate 32 0)).toArray 27)) := Kept.alloc _ _ _
      have hz : (Wa.alloc (.cells (arr8 (List.replicate 32 0)).toArray 27)).heap.size = Wa.heap.size + 1 := by simp
      change K _ (Wa.alloc (.cells (arr8 (List.replicate 32 0)).toArray 27))
      generalize Wa.alloc (.cells (arr8 (List.replicate 32 0)).toArray 27) = Wb0 at hb hk hz ⊢
      refine hK.out _ _ (hHeld.then hk) (fun hHeld2 => ?_)
      clear hK K
      have a5 : w3.heap.size ≤ Wa.heap.size := hHeld.size
      have B52 := Lib.hid hb
      have c52 : Wa.heap.size < Wb0.heap.size := by omega
      clear hb hk hz
      generalize Wa.heap.size = b5 at *
      have B5 := B52; have c5 := c52; clear B52 c52
      clear hHeld; have hHeld := hHeld2; clear hHeld2
      try (simp only [Act.put, List.getElem_toArray, List.getElem_cons_succ, List.getElem_cons_zero, List.setIfInBounds_toArray, List.set_cons_zero, List.set_cons_succ])
      refine wpAnyH_ready (rs := [7, 8]) (by kernel_rfl) (by simp) ?_
      refine AllReadyH.cons (o := _) rfl (fun K hK => ?_) ?_
      · go_simp
        have hb : Blk (Wb0.alloc (.cells (arr8 (List.replicate 32 0)).toArray 27)) Wb0.heap.size 0 (List.replicate 32 0) := blk_new Wb0 _ _ _ rfl
        have hk : Kept (fun _ => False) Wb0 (Wb0.alloc (.cells (arr8 (List.replicate 32 0)).toArray 27)) := Kept.alloc _ _ _
        have hz : (Wb0.alloc (.cells (arr8 (List.replicate 32 0)).toArray 27)).heap.size = Wb0.heap.size + 1 := by simp
        change K _ (Wb0.alloc (.cells (arr8 (List.replicate 32 0)).toArray 27))
        generalize Wb0.alloc (.cells (arr8 (List.replicate 32 0)).toArray 27) = Wb1 at hb hk hz ⊢
        refine hK.out _ _ (hHeld.then hk) (fun hHeld2 => ?_)
        clear hK K
        have B52 := Lib.hid (B5.out.kept hk (by omega) (fun h => h))
        have c52 : b5 < Wb1.heap.size := by omega
        have a6 : w3.heap.size ≤ Wb0.heap.size := hHeld.size
        have B62 := Lib.hid hb
        have c62 : Wb0.heap.size < Wb1.heap.size := by omega
        have n56 : b5 ≠ Wb0.heap.size := by omega
        clear hb hk hz
        clear B5 c5
        generalize Wb0.heap.size = b6 at *
        have B5 := B52; have c5 := c52; clear B52 c52
        have B6 := B62; have c6 := c62; clear B62 c62
        clear hHeld; have hHeld := hHeld2; clear hHeld2
        try (simp only [Act.put, List.getElem_toArray, List.getElem_cons_succ, List.getElem_cons_zero, List.setIfInBounds_toArray, List.set_cons_zero, List.set_cons_succ])
        refine wpAnyH_ready (rs := [8]) (by kernel_rfl) (by simp) ?_
        refine AllReadyH.cons (o := _) rfl (fun K hK => ?_) ?_
        · go_simp
          have hb : Blk (Wb1.alloc (.cells (arr8 (List.replicate 32 0)).toArray 27)) Wb1.heap.size 0 (List.replicate 32 0) := blk_new Wb1 _ _ _ rfl
          have hk : Kept (fun _ => False) Wb1 (Wb1.alloc (.cells (arr8 (List.replicate 32 0)).toArray 27)) := Kept.alloc _ _ _
          have hz : (Wb1.alloc (.cells (arr8 (List.replicate 32 0)).toArray 27)).heap.size = Wb1.heap.size + 1 := by simp
          change K _ (Wb1.alloc (.cells (arr8 (List.replicate 32 0)).toArray 27))
          generalize Wb1.alloc (.cells (arr8 (List.replicate 32 0)).toArray 27) = Wb2 at hb hk hz ⊢
          refine hK.out _ _ (hHeld.then hk) (fun hHeld2 => ?_)
          clear hK K
          have B52 := Lib.hid (B5.out.kept hk (by omega) (fun h => h))
          have c52 : b5 < Wb2.heap.size := by omega
          have B62 := Lib.hid (B6.out.kept hk (by omega) (fun h => h))
          have c62 : b6 < Wb2.heap.size := by omega
          have a7 : w3.heap.size ≤ Wb1.heap.size := hHeld.size
          have B72 := Lib.hid hb
          have c72 : Wb1.heap.size < Wb2.heap.size := by omega
          have n57 : b5 ≠ Wb1.heap.size := by omega
          have n67 : b6 ≠ Wb1.heap.size := by omega
          clear hb hk hz
          clear B5 c5 B6 c6
          generalize Wb1.heap.size = b7 at *
          have B5 := B52; have c5 := c52; clear B52 c52
          have B6 := B62; have c6 := c62; clear B62 c62
          have B7 := B72; have c7 := c72; clear B72 c72
          clear hHeld; have hHeld := hHeld2; clear hHeld2
          try (simp only [Act.put, List.getElem_toArray, List.getElem_cons_succ, List.getElem_cons_zero, List.setIfInBounds_toArray, List.set_cons_zero, List.set_cons_succ])
          refine wpAnyH_ready (rs := [9]) (by kernel_rfl) (by simp) ?_
          refine AllReadyH.cons (o := _) rfl (fun K hK => ?_) ?_
          · rw [if_pos (by simp [Region.wanted, yielded])]
            refine wp_store_mid _ _ _ rfl b5 0 (arr8 x).toArray rfl rfl ?_ ?_ (all_oneCell_toArray o0) ?_
            · intro j hj; rw [List.size_toArray, l0] at hj; exact ⟨by rw [B5.out.cell j (by rw [List.length_replicate]; exact hj)]; rfl, B5.out.free j (by rw [List.length_replicate]; exact hj)⟩
            · rw [List.size_toArray]; exact kj0
            simp only [List.toList_toArray]
            have hk : Kept (fun k => k = b5) Wb2 (Wb2.setCells b5 0 (arr8 x)) := Kept.setCells _ _ _ _
            have hb := B5.out.setCells (t := x) (by rw [List.length_replicate, HX.out])
            generalize Wb2.setCells b5 0 (arr8 x) = Wc0 at hb hk ⊢
            refine hK.out _ _ (hHeld.trans hk (T := fun _ => False) (fun _ _ h => h) (fun j hj e => by omega)) (fun hHeld2 => ?_)
            clear hK K
            have B52 := Lib.hid hb
            have c52 : b5 < Wc0.heap.size := Nat.lt_of_lt_of_le c5 hk.size
            have B62 := Lib.hid (B6.out.kept hk c6 (Ne.symm n56))
            have c62 : b6 < Wc0.heap.size := Nat.lt_of_lt_of_le c6 hk.size
            have B72 := Lib.hid (B7.out.kept hk c7 (Ne.symm n57))
            have c72 : b7 < Wc0.heap.size := Nat.lt_of_lt_of_le c7 hk.size
            clear hb hk B5 B6 B7 c5 c6 c7
            have B5 := B52; have c5 := c52; clear B52 c52
            have B6 := B62; have c6 := c62; clear B62 c62
            have B7 := B72; have c7 := c72; clear B72 c72
            clear hHeld; have hHeld := hHeld2; clear hHeld2
            try (simp only [Act.put, List.getElem_toArray, List.getElem_cons_succ, List.getElem_cons_zero, List.setIfInBounds_toArray, List.set_cons_zero, List.set_cons_succ])
            refine wpAnyH_ready (rs := [10]) (by kernel_rfl) (by simp) ?_
            refine AllReadyH.cons (o := _) rfl (fun K hK => ?_) ?_
            · rw [if_pos (by simp [Region.wanted, yielded])]
              refine wp_store_mid _ _ _ rfl b6 0 (arr8 y2).toArray rfl rfl ?_ ?_ (all_oneCell_toArray o1) ?_
              · intro j hj; rw [List.size_toArray, l1] at hj; exact ⟨by rw [B6.out.cell j (by rw [List.length_replicate]; exact hj)]; rfl, B6.out.free j (by rw [List.length_replicate]; exact hj)⟩
              · rw [List.size_toArray]; exact kj1
              simp only [List.toList_toArray]
              have hk : Kept (fun k => k = b6) Wc0 (Wc0.setCells b6 0 (arr8 y2)) := Kept.setCells _ _ _ _
              have hb := B6.out.setCells (t := y2) (by rw [List.length_replicate, HY2.out])
              generalize Wc0.setCells b6 0 (arr8 y2) = Wc1 at hb hk ⊢
              refine hK.out _ _ (hHeld.trans hk (T := fun _ => False) (fun _ _ h => h) (fun j hj e => by omega)) (fun hHeld2 => ?_)
              clear hK K
              have B52 := Lib.hid (B5.out.kept hk c5 n56)
              have c52 : b5 < Wc1.heap.size := Nat.lt_of_lt_of_le c5 hk.size
              have B62 := Lib.hid hb
              have c62 : b6 < Wc1.heap.size := Nat.lt_of_lt_of_le c6 hk.size
              have B72 := Lib.hid (B7.out.kept hk c7 (Ne.symm n67))
              have c72 : b7 < Wc1.heap.size := Nat.lt_of_lt_of_le c7 hk.size
              clear hb hk B5 B6 B7 c5 c6 c7
              have B5 := B52; have c5 := c52; clear B52 c52
              have B6 := B62; have c6 := c62; clear B62 c62
              have B7 := B72; have c7 := c72; clear B72 c72
              clear hHeld; have hHeld := hHeld2; clear hHeld2
              try (simp only [Act.put, List.getElem_toArray, List.getElem_cons_succ, List.getElem_cons_zero, List.setIfInBounds_toArray, List.set_cons_zero, List.set_cons_succ])
              refine wpAnyH_ready (rs := [11]) (by kernel_rfl) (by simp) ?_
              refine AllReadyH.cons (o := _) rfl (fun K hK => ?_) ?_
              · rw [if_pos (by simp [Region.wanted, yielded])]
                refine wp_store_mid _ _ _ rfl b7 0 (arr8 z2).toArray rfl rfl ?_ ?_ (all_oneCell_toArray o2) ?_
                · intro j hj; rw [List.size_toArray, l2] at hj; exact ⟨by rw [B7.out.cell j (by rw [List.length_replicate]; exact hj)]; rfl, B7.out.free j (by rw [List.length_replicate]; exact hj)⟩
                · rw [List.size_toArray]; exact kj2
                simp only [List.toList_toArray]
                have hk : Kept (fun k => k = b7) Wc1 (Wc1.setCells b7 0 (arr8 z2)) := Kept.setCells _ _ _ _
                have hb := B7.out.setCells (t := z2) (by rw [List.length_replicate, HZ2.out])
                generalize Wc1.setCells b7 0 (arr8 z2) = Wc2 at hb hk ⊢
                refine hK.out _ _ (hHeld.trans hk (T := fun _ => False) (fun _ _ h => h) (fun j hj e => by omega)) (fun hHeld2 => ?_)
                clear hK K
                have B52 := Lib.hid (B5.out.kept hk c5 n57)
                have c52 : b5 < Wc2.heap.size := Nat.lt_of_lt_of_le c5 hk.size
                have B62 := Lib.hid (B6.out.kept hk c6 n67)
                have c62 : b6 < Wc2.heap.size := Nat.lt_of_lt_of_le c6 hk.size
                have B72 := Lib.hid hb
                have c72 : b7 < Wc2.heap.size := Nat.lt_of_lt_of_le c7 hk.size
                clear hb hk B5 B6 B7 c5 c6 c7
                have B5 := B52; have c5 := c52; clear B52 c52
                have B6 := B62; have c6 := c62; clear B62 c62
                have B7 := B72; have c7 := c72; clear B72 c72
                clear hHeld; have hHeld := hHeld2; clear hHeld2
                try (simp only [Act.put, List.getElem_toArray, List.getElem_cons_succ, List.getElem_cons_zero, List.setIfInBounds_toArray, List.set_cons_zero, List.set_cons_succ])
                refine wpAnyH_done (by kernel_rfl) ?_ _
                go_wp2_with fail
                go_meet
                exact ⟨b5, b6, b7, rfl, rfl, rfl, B5, B6, B7, c5, c6, c7, hHeld⟩
              exact AllReadyH.nil
            exact AllReadyH.nil
          exact AllReadyH.nil
        exact AllReadyH.nil
      refine AllReadyH.cons (o := _) rfl (fun K hK => ?_) ?_
      · go_simp
        have hb : Blk (Wb0.alloc (.cells (arr8 (List.replicate 32 0)).toArray 27)) Wb0.heap.size 0 (List.replicate 32 0) := blk_new Wb0 _ _ _ rfl
        have hk : Kept (fun _ => False) Wb0 (Wb0.alloc (.cells (arr8 (List.replicate 32 0)).toArray 27)) := Kept.alloc _ _ _
        have hz : (Wb0.alloc (.cells (arr8 (List.replicate 32 0)).toArray 27)).heap.size = Wb0.heap.size + 1 := by simp
        change K _ (Wb0.alloc (.cells (arr8 (List.replicate 32 0)).toArray 27))
        generalize Wb0.alloc (.cells (arr8 (List.replicate 32 0)).toArray 27) = Wb1 at hb hk hz ⊢
        refine hK.out _ _ (hHeld.then hk) (fun hHeld2 => ?_)
        clear hK K
        have B52 := Lib.hid (B5.out.kept hk (by omega) (fun h => h))
        have c52 : b5 < Wb1.heap.size := by omega
        have a7 : w3.heap.size ≤ Wb0.heap.size := hHeld.size
        have B72 := Lib.hid hb
        have c72 : Wb0.heap.size < Wb1.heap.size := by omega
        have n57 : b5 ≠ Wb0.heap.size := by omega
        clear hb hk hz
        clear B5 c5
        generalize Wb0.heap.size = b7 at *
        have B5 := B52; have c5 := c52; clear B52 c52
        have B7 := B72; have c7 := c72; clear B72 c72
        clear hHeld; have hHeld := hHeld2; clear hHeld2
        try (simp only [Act.put, List.getElem_toArray, List.getElem_cons_succ, List.getElem_cons_zero, List.setIfInBounds_toArray, List.set_cons_zero, List.set_cons_succ])
        refine wpAnyH_ready (rs := [7]) (by kernel_rfl) (by simp) ?_
        refine AllReadyH.cons (o := _) rfl (fun K hK => ?_) ?_
        · go_simp
          have hb : Blk (Wb1.alloc (.cells (arr8 (List.replicate 32 0)).toArray 27)) Wb1.heap.size 0 (List.replicate 32 0) := blk_new Wb1 _ _ _ rfl
          have hk : Kept (fun _ => False) Wb1 (Wb1.alloc (.cells (arr8 (List.replicate 32 0)).toArray 27)) := Kept.alloc _ _ _
          have hz : (Wb1.alloc (.cells (arr8 (List.replicate 32 0)).toArray 27)).heap.size = Wb1.heap.size + 1 := by simp
          change K _ (Wb1.alloc (.cells (arr8 (List.replicate 32 0)).toArray 27))
          generalize Wb1.alloc (.cells (arr8 (List.replicate 32 0)).toArray 27) = Wb2 at hb hk hz ⊢
          refine hK.out _ _ (hHeld.then hk) (fun hHeld2 => ?_)
          clear hK K
          have B52 := Lib.hid (B5.out.kept hk (by omega) (fun h => h))
          have c52 : b5 < Wb2.heap.size := by omega
          have B72 := Lib.hid (B7.out.kept hk (by omega) (fun h => h))
          have c72 : b7 < Wb2.heap.size := by omega
          have a6 : w3.heap.size ≤ Wb1.heap.size := hHeld.size
          have B62 := Lib.hid hb
          have c62 : Wb1.heap.size < Wb2.heap.size := by omega
          have n56 : b5 ≠ Wb1.heap.size := by omega
          have n76 : b7 ≠ Wb1.heap.size := by omega
          clear hb hk hz
          clear B5 c5 B7 c7
          generalize Wb1.heap.size = b6 at *
          have B5 := B52; have c5 := c52; clear B52 c52
          have B7 := B72; have c7 := c72; clear B72 c72
          have B6 := B62; have c6 := c62; clear B62 c62
          clear hHeld; have hHeld := hHeld2; clear hHeld2
          try (simp only [Act.put, List.getElem_toArray, List.getElem_cons_succ, List.getElem_cons_zero, List.setIfInBounds_toArray, List.set_cons_zero, List.set_cons_succ])
          refine wpAnyH_ready (rs := [9]) (by kernel_rfl) (by simp) ?_
          refine AllReadyH.cons (o := _) rfl (fun K hK => ?_) ?_
          · rw [if_pos (by simp [Region.wanted, yielded])]
            refine wp_store_mid _ _ _ rfl b5 0 (arr8 x).toArray rfl rfl ?_ ?_ (all_oneCell_toArray o0) ?_
            · intro j hj; rw [List.size_toArray, l0] at hj; exact ⟨by rw [B5.out.cell j (by rw [List.length_replicate]; exact hj)]; rfl, B5.out.free j (by rw [List.length_replicate]; exact hj)⟩
            · rw [List.size_toArray]; exact kj0
            simp only [List.toList_toArray]
            have hk : Kept (fun k => k = b5) Wb2 (Wb2.setCells b5 0 (arr8 x)) := Kept.setCells _ _ _ _
            have hb := B5.out.setCells (t := x) (by rw [List.length_replicate, HX.out])
            generalize Wb2.setCells b5 0 (arr8 x) = Wc0 at hb hk ⊢
            refine hK.out _ _ (hHeld.trans hk (T := fun _ => False) (fun _ _ h => h) (fun j hj e => by omega)) (fun hHeld2 => ?_)
            clear hK K
            have B52 := Lib.hid hb
            have c52 : b5 < Wc0.heap.size := Nat.lt_of_lt_of_le c5 hk.size
            have B62 := Lib.hid (B6.out.kept hk c6 (Ne.symm n56))
            have c62 : b6 < Wc0.heap.size := Nat.lt_of_lt_of_le c6 hk.size
            have B72 := Lib.hid (B7.out.kept hk c7 (Ne.symm n57))
            have c72 : b7 < Wc0.heap.size := Nat.lt_of_lt_of_le c7 hk.size
            clear hb hk B5 B6 B7 c5 c6 c7
            have B5 := B52; have c5 := c52; clear B52 c52
            have B6 := B62; have c6 := c62; clear B62 c62
            have B7 := B72; have c7 := c72; clear B72 c72
            clear hHeld; have hHeld := hHeld2; clear hHeld2
            try (simp only [Act.put, List.getElem_toArray, List.getElem_cons_succ, List.getElem_cons_zero, List.setIfInBounds_toArray, List.set_cons_zero, List.set_cons_succ])
            refine wpAnyH_ready (rs := [10]) (by kernel_rfl) (by simp) ?_
            refine AllReadyH.cons (o := _) rfl (fun K hK => ?_) ?_
            · rw [if_pos (by simp [Region.wanted, yielded])]
              refine wp_store_mid _ _ _ rfl b6 0 (arr8 y2).toArray rfl rfl ?_ ?_ (all_oneCell_toArray o1) ?_
              · intro j hj; rw [List.size_toArray, l1] at hj; exact ⟨by rw [B6.out.cell j (by rw [List.length_replicate]; exact hj)]; rfl, B6.out.free j (by rw [List.length_replicate]; exact hj)⟩
              · rw [List.size_toArray]; exact kj1
              simp only [List.toList_toArray]
              have hk : Kept (fun k => k = b6) Wc0 (Wc0.setCells b6 0 (arr8 y2)) := Kept.setCells _ _ _ _
              have hb := B6.out.setCells (t := y2) (by rw [List.length_replicate, HY2.out])
              generalize Wc0.setCells b6 0 (arr8 y2) = Wc1 at hb hk ⊢
              refine hK.out _ _ (hHeld.trans hk (T := fun _ => False) (fun _ _ h => h) (fun j hj e => by omega)) (fun hHeld2 => ?_)
              clear hK K
              have B52 := Lib.hid (B5.out.kept hk c5 n56)
              have c52 : b5 < Wc1.heap.size := Nat.lt_of_lt_of_le c5 hk.size
              have B62 := Lib.hid hb
              have c62 : b6 < Wc1.heap.size := Nat.lt_of_lt_of_le c6 hk.size
              have B72 := Lib.hid (B7.out.kept hk c7 n76)
              have c72 : b7 < Wc1.heap.size := Nat.lt_of_lt_of_le c7 hk.size
              clear hb hk B5 B6 B7 c5 c6 c7
              have B5 := B52; have c5 := c52; clear B52 c52
              have B6 := B62; have c6 := c62; clear B62 c62
              have B7 := B72; have c7 := c72; clear B72 c72
              clear hHeld; have hHeld := hHeld2; clear hHeld2
              try (simp only [Act.put, List.getElem_toArray, List.getElem_cons_succ, List.getElem_cons_zero, List.setIfInBounds_toArray, List.set_cons_zero, List.set_cons_succ])
              refine wpAnyH_ready (rs := [11]) (by kernel_rfl) (by simp) ?_
              refine AllReadyH.cons (o := _) rfl (fun K hK => ?_) ?_
              · rw [if_pos (by simp [Region.wanted, yielded])]
                refine wp_store_mid _ _ _ rfl b7 0 (arr8 z2).toArray rfl rfl ?_ ?_ (all_oneCell_toArray o2) ?_
                · intro j hj; rw [List.size_toArray, l2] at hj; exact ⟨by rw [B7.out.cell j (by rw [List.length_replicate]; exact hj)]; rfl, B7.out.free j (by rw [List.length_replicate]; exact hj)⟩
                · rw [List.size_toArray]; exact kj2
                simp only [List.toList_toArray]
                have hk : Kept (fun k => k = b7) Wc1 (Wc1.setCells b7 0 (arr8 z2)) := Kept.setCells _ _ _ _
                have hb := B7.out.setCells (t := z2) (by rw [List.length_replicate, HZ2.out])
                generalize Wc1.setCells b7 0 (arr8 z2) = Wc2 at hb hk ⊢
                refine hK.out _ _ (hHeld.trans hk (T := fun _ => False) (fun _ _ h => h) (fun j hj e => by omega)) (fun hHeld2 => ?_)
                clear hK K
                have B52 := Lib.hid (B5.out.kept hk c5 n57)
                have c52 : b5 < Wc2.heap.size := Nat.lt_of_lt_of_le c5 hk.size
                have B62 := Lib.hid (B6.out.kept hk c6 (Ne.symm n76))
                have c62 : b6 < Wc2.heap.size := Nat.lt_of_lt_of_le c6 hk.size
                have B72 := Lib.hid hb
                have c72 : b7 < Wc2.heap.size := Nat.lt_of_lt_of_le c7 hk.size
                clear hb hk B5 B6 B7 c5 c6 c7
                have B5 := B52; have c5 := c52; clear B52 c52
                have B6 := B62; have c6 := c62; clear B62 c62
                have B7 := B72; have c7 := c72; clear B72 c72
                clear hHeld; have hHeld := hHeld2; clear hHeld2
                try (simp only [Act.put, List.getElem_toArray, List.getElem_cons_succ, List.getElem_cons_zero, List.setIfInBounds_toArray, List.set_cons_zero, List.set_cons_succ])
                refine wpAnyH_done (by kernel_rfl) ?_ _
                go_wp2_with fail
                go_meet
                exact ⟨b5, b6, b7, rfl, rfl, rfl, B5, B6, B7, c5, c6, c7, hHeld⟩
              exact AllReadyH.nil
            exact AllReadyH.nil
          exact AllReadyH.nil
        exact AllReadyH.nil
      exact AllReadyH.nil
    refine AllReadyH.cons (o := _) rfl (fun K hK => ?_) ?_
    · go_simp
      have hb : Blk (Wa.alloc (.cells (arr8 (List.replicate 32 0)).toArray 27)) Wa.heap.size 0 (List.replicate 32 0) := blk_new Wa _ _ _ rfl
      have hk : Kept (fun _ => False) Wa (Wa.alloc (.cells (arr8 (List.replicate 32 0)).toArray 27)) := Kept.alloc _ _ _
      have hz : (Wa.alloc (.cells (arr8 (List.replicate 32 0)).toArray 27)).heap.size = Wa.heap.size + 1 := by simp
      change K _ (Wa.alloc (.cells (arr8 (List.replicate 32 0)).toArray 27))
      generalize Wa.alloc (.cells (arr8 (List.replicate 32 0)).toArray 27) = Wb0 at hb hk hz ⊢
      refine hK.out _ _ (hHeld.then hk) (fun hHeld2 => ?_)
      clear hK K
      have a6 : w3.heap.size ≤ Wa.heap.size := hHeld.size
      have B62 := Lib.hid hb
      have c62 : Wa.heap.size < Wb0.heap.size := by omega
      clear hb hk hz
      generalize Wa.heap.size = b6 at *
      have B6 := B62; have c6 := c62; clear B62 c62
      clear hHeld; have hHeld := hHeld2; clear hHeld2
      try (simp only [Act.put, List.getElem_toArray, List.getElem_cons_succ, List.getElem_cons_zero, List.setIfInBounds_toArray, List.set_cons_zero, List.set_cons_succ])
      refine wpAnyH_ready (rs := [6, 8]) (by kernel_rfl) (by simp) ?_
      refine AllReadyH.cons (o := _) rfl (fun K hK => ?_) ?_
      · go_simp
        have hb : Blk (Wb0.alloc (.cells (arr8 (List.replicate 32 0)).toArray 27)) Wb0.heap.size 0 (List.replicate 32 0) := blk_new Wb0 _ _ _ rfl
        have hk : Kept (fun _ => False) Wb0 (Wb0.alloc (.cells (arr8 (List.replicate 32 0)).toArray 27)) := Kept.alloc _ _ _
        have hz : (Wb0.alloc (.cells (arr8 (List.replicate 32 0)).toArray 27)).heap.size = Wb0.heap.size + 1 := by simp
        change K _ (Wb0.alloc (.cells (arr8 (List.replicate 32 0)).toArray 27))
        generalize Wb0.alloc (.cells (arr8 (List.replicate 32 0)).toArray 27) = Wb1 at hb hk hz ⊢
        refine hK.out _ _ (hHeld.then hk) (fun hHeld2 => ?_)
        clear hK K
        have B62 := Lib.hid (B6.out.kept hk (by omega) (fun h => h))
        have c62 : b6 < Wb1.heap.size := by omega
        have a5 : w3.heap.size ≤ Wb0.heap.size := hHeld.size
        have B52 := Lib.hid hb
        have c52 : Wb0.heap.size < Wb1.heap.size := by omega
        have n65 : b6 ≠ Wb0.heap.size := by omega
        clear hb hk hz
        clear B6 c6
        generalize Wb0.heap.size = b5 at *
        have B6 := B62; have c6 := c62; clear B62 c62
        have B5 := B52; have c5 := c52; clear B52 c52
        clear hHeld; have hHeld := hHeld2; clear hHeld2
        try (simp only [Act.put, List.getElem_toArray, List.getElem_cons_succ, List.getElem_cons_zero, List.setIfInBounds_toArray, List.set_cons_zero, List.set_cons_succ])
        refine wpAnyH_ready (rs := [8]) (by kernel_rfl) (by simp) ?_
        refine AllReadyH.cons (o := _) rfl (fun K hK => ?_) ?_
        · go_simp
          have hb : Blk (Wb1.alloc (.cells (arr8 (List.replicate 32 0)).toArray 27)) Wb1.heap.size 0 (List.replicate 32 0) := blk_new Wb1 _ _ _ rfl
          have hk : Kept (fun _ => False) Wb1 (Wb1.alloc (.cells (arr8 (List.replicate 32 0)).toArray 27)) := Kept.alloc _ _ _
          have hz : (Wb1.alloc (.cells (arr8 (List.replicate 32 0)).toArray 27)).heap.size = Wb1.heap.size + 1 := by simp
          change K _ (Wb1.alloc (.cells (arr8 (List.replicate 32 0)).toArray 27))
          generalize Wb1.alloc (.cells (arr8 (List.replicate 32 0)).toArray 27) = Wb2 at hb hk hz ⊢
          refine hK.out _ _ (hHeld.then hk) (fun hHeld2 => ?_)
          clear hK K
          have B62 := Lib.hid (B6.out.kept hk (by omega) (fun h => h))
          have c62 : b6 < Wb2.heap.size := by omega
          have B52 := Lib.hid (B5.out.kept hk (by omega) (fun h => h))
          have c52 : b5 < Wb2.heap.size := by omega
          have a7 : w3.heap.size ≤ Wb1.heap.size := hHeld.size
          have B72 := Lib.hid hb
          have c72 : Wb1.heap.size < Wb2.heap.size := by omega
          have n67 : b6 ≠ Wb1.heap.size := by omega
          have n57 : b5 ≠ Wb1.heap.size := by omega
          clear hb hk hz
          clear B6 c6 B5 c5
          generalize Wb1.heap.size = b7 at *
          have B6 := B62; have c6 := c62; clear B62 c62
          have B5 := B52; have c5 := c52; clear B52 c52
          have B7 := B72; have c7 := c72; clear B72 c72
          clear hHeld; have hHeld := hHeld2; clear hHeld2
          try (simp only [Act.put, List.getElem_toArray, List.getElem_cons_succ, List.getElem_cons_zero, List.setIfInBounds_toArray, List.set_cons_zero, List.set_cons_succ])
          refine wpAnyH_ready (rs := [9]) (by kernel_rfl) (by simp) ?_
          refine AllReadyH.cons (o := _) rfl (fun K hK => ?_) ?_
          · rw [if_pos (by simp [Region.wanted, yielded])]
            refine wp_store_mid _ _ _ rfl b5 0 (arr8 x).toArray rfl rfl ?_ ?_ (all_oneCell_toArray o0) ?_
            · intro j hj; rw [List.size_toArray, l0] at hj; exact ⟨by rw [B5.out.cell j (by rw [List.length_replicate]; exact hj)]; rfl, B5.out.free j (by rw [List.length_replicate]; exact hj)⟩
            · rw [List.size_toArray]; exact kj0
            simp only [List.toList_toArray]
            have hk : Kept (fun k => k = b5) Wb2 (Wb2.setCells b5 0 (arr8 x)) := Kept.setCells _ _ _ _
            have hb := B5.out.setCells (t := x) (by rw [List.length_replicate, HX.out])
            generalize Wb2.setCells b5 0 (arr8 x) = Wc0 at hb hk ⊢
            refine hK.out _ _ (hHeld.trans hk (T := fun _ => False) (fun _ _ h => h) (fun j hj e => by omega)) (fun hHeld2 => ?_)
            clear hK K
            have B52 := Lib.hid hb
            have c52 : b5 < Wc0.heap.size := Nat.lt_of_lt_of_le c5 hk.size
            have B62 := Lib.hid (B6.out.kept hk c6 n65)
            have c62 : b6 < Wc0.heap.size := Nat.lt_of_lt_of_le c6 hk.size
            have B72 := Lib.hid (B7.out.kept hk c7 (Ne.symm n57))
            have c72 : b7 < Wc0.heap.size := Nat.lt_of_lt_of_le c7 hk.size
            clear hb hk B5 B6 B7 c5 c6 c7
            have B5 := B52; have c5 := c52; clear B52 c52
            have B6 := B62; have c6 := c62; clear B62 c62
            have B7 := B72; have c7 := c72; clear B72 c72
            clear hHeld; have hHeld := hHeld2; clear hHeld2
            try (simp only [Act.put, List.getElem_toArray, List.getElem_cons_succ, List.getElem_cons_zero, List.setIfInBounds_toArray, List.set_cons_zero, List.set_cons_succ])
            refine wpAnyH_ready (rs := [10]) (by kernel_rfl) (by simp) ?_
            refine AllReadyH.cons (o := _) rfl (fun K hK => ?_) ?_
            · rw [if_pos (by simp [Region.wanted, yielded])]
              refine wp_store_mid _ _ _ rfl b6 0 (arr8 y2).toArray rfl rfl ?_ ?_ (all_oneCell_toArray o1) ?_
              · intro j hj; rw [List.size_toArray, l1] at hj; exact ⟨by rw [B6.out.cell j (by rw [List.length_replicate]; exact hj)]; rfl, B6.out.free j (by rw [List.length_replicate]; exact hj)⟩
              · rw [List.size_toArray]; exact kj1
              simp only [List.toList_toArray]
              have hk : Kept (fun k => k = b6) Wc0 (Wc0.setCells b6 0 (arr8 y2)) := Kept.setCells _ _ _ _
              have hb := B6.out.setCells (t := y2) (by rw [List.length_replicate, HY2.out])
              generalize Wc0.setCells b6 0 (arr8 y2) = Wc1 at hb hk ⊢
              refine hK.out _ _ (hHeld.trans hk (T := fun _ => False) (fun _ _ h => h) (fun j hj e => by omega)) (fun hHeld2 => ?_)
              clear hK K
              have B52 := Lib.hid (B5.out.kept hk c5 (Ne.symm n65))
              have c52 : b5 < Wc1.heap.size := Nat.lt_of_lt_of_le c5 hk.size
              have B62 := Lib.hid hb
              have c62 : b6 < Wc1.heap.size := Nat.lt_of_lt_of_le c6 hk.size
              have B72 := Lib.hid (B7.out.kept hk c7 (Ne.symm n67))
              have c72 : b7 < Wc1.heap.size := Nat.lt_of_lt_of_le c7 hk.size
              clear hb hk B5 B6 B7 c5 c6 c7
              have B5 := B52; have c5 := c52; clear B52 c52
              have B6 := B62; have c6 := c62; clear B62 c62
              have B7 := B72; have c7 := c72; clear B72 c72
              clear hHeld; have hHeld := hHeld2; clear hHeld2
              try (simp only [Act.put, List.getElem_toArray, List.getElem_cons_succ, List.getElem_cons_zero, List.setIfInBounds_toArray, List.set_cons_zero, List.set_cons_succ])
              refine wpAnyH_ready (rs := [11]) (by kernel_rfl) (by simp) ?_
              refine AllReadyH.cons (o := _) rfl (fun K hK => ?_) ?_
              · rw [if_pos (by simp [Region.wanted, yielded])]
                refine wp_store_mid _ _ _ rfl b7 0 (arr8 z2).toArray rfl rfl ?_ ?_ (all_oneCell_toArray o2) ?_
                · intro j hj; rw [List.size_toArray, l2] at hj; exact ⟨by rw [B7.out.cell j (by rw [List.length_replicate]; exact hj)]; rfl, B7.out.free j (by rw [List.length_replicate]; exact hj)⟩
                · rw [List.size_toArray]; exact kj2
                simp only [List.toList_toArray]
                have hk : Kept (fun k => k = b7) Wc1 (Wc1.setCells b7 0 (arr8 z2)) := Kept.setCells _ _ _ _
                have hb := B7.out.setCells (t := z2) (by rw [List.length_replicate, HZ2.out])
                generalize Wc1.setCells b7 0 (arr8 z2) = Wc2 at hb hk ⊢
                refine hK.out _ _ (hHeld.trans hk (T := fun _ => False) (fun _ _ h => h) (fun j hj e => by omega)) (fun hHeld2 => ?_)
                clear hK K
                have B52 := Lib.hid (B5.out.kept hk c5 n57)
                have c52 : b5 < Wc2.heap.size := Nat.lt_of_lt_of_le c5 hk.size
                have B62 := Lib.hid (B6.out.kept hk c6 n67)
                have c62 : b6 < Wc2.heap.size := Nat.lt_of_lt_of_le c6 hk.size
                have B72 := Lib.hid hb
                have c72 : b7 < Wc2.heap.size := Nat.lt_of_lt_of_le c7 hk.size
                clear hb hk B5 B6 B7 c5 c6 c7
                have B5 := B52; have c5 := c52; clear B52 c52
                have B6 := B62; have c6 := c62; clear B62 c62
                have B7 := B72; have c7 := c72; clear B72 c72
                clear hHeld; have hHeld := hHeld2; clear hHeld2
                try (simp only [Act.put, List.getElem_toArray, List.getElem_cons_succ, List.getElem_cons_zero, List.setIfInBounds_toArray, List.set_cons_zero, List.set_cons_succ])
                refine wpAnyH_done (by kernel_rfl) ?_ _
                go_wp2_with fail
                go_meet
                exact ⟨b5, b6, b7, rfl, rfl, rfl, B5, B6, B7, c5, c6, c7, hHeld⟩
              exact AllReadyH.nil
            exact AllReadyH.nil
          exact AllReadyH.nil
        exact AllReadyH.nil
      refine AllReadyH.cons (o := _) rfl (fun K hK => ?_) ?_
      · go_simp
        have hb : Blk (Wb0.alloc (.cells (arr8 (List.replicate 32 0)).toArray 27)) Wb0.heap.size 0 (List.replicate 32 0) := blk_new Wb0 _ _ _ rfl
        have hk : Kept (fun _ => False) Wb0 (Wb0.alloc (.cells (arr8 (List.replicate 32 0)).toArray 27)) := Kept.alloc _ _ _
        have hz : (Wb0.alloc (.cells (arr8 (List.replicate 32 0)).toArray 27)).heap.size = Wb0.heap.size + 1 := by simp
        change K _ (Wb0.alloc (.cells (arr8 (List.replicate 32 0)).toArray 27))
        generalize Wb0.alloc (.cells (arr8 (List.replicate 32 0)).toArray 27) = Wb1 at hb hk hz ⊢
        refine hK.out _ _ (hHeld.then hk) (fun hHeld2 => ?_)
        clear hK K
        have B62 := Lib.hid (B6.out.kept hk (by omega) (fun h => h))
        have c62 : b6 < Wb1.heap.size := by omega
        have a7 : w3.heap.size ≤ Wb0.heap.size := hHeld.size
        have B72 := Lib.hid hb
        have c72 : Wb0.heap.size < Wb1.heap.size := by omega
        have n67 : b6 ≠ Wb0.heap.size := by omega
        clear hb hk hz
        clear B6 c6
        generalize Wb0.heap.size = b7 at *
        have B6 := B62; have c6 := c62; clear B62 c62
        have B7 := B72; have c7 := c72; clear B72 c72
        clear hHeld; have hHeld := hHeld2; clear hHeld2
        try (simp only [Act.put, List.getElem_toArray, List.getElem_cons_succ, List.getElem_cons_zero, List.setIfInBounds_toArray, List.set_cons_zero, List.set_cons_succ])
        refine wpAnyH_ready (rs := [6]) (by kernel_rfl) (by simp) ?_
        refine AllReadyH.cons (o := _) rfl (fun K hK => ?_) ?_
        · go_simp
          have hb : Blk (Wb1.alloc (.cells (arr8 (List.replicate 32 0)).toArray 27)) Wb1.heap.size 0 (List.replicate 32 0) := blk_new Wb1 _ _ _ rfl
          have hk : Kept (fun _ => False) Wb1 (Wb1.alloc (.cells (arr8 (List.replicate 32 0)).toArray 27)) := Kept.alloc _ _ _
          have hz : (Wb1.alloc (.cells (arr8 (List.replicate 32 0)).toArray 27)).heap.size = Wb1.heap.size + 1 := by simp
          change K _ (Wb1.alloc (.cells (arr8 (List.replicate 32 0)).toArray 27))
          generalize Wb1.alloc (.cells (arr8 (List.replicate 32 0)).toArray 27) = Wb2 at hb hk hz ⊢
          refine hK.out _ _ (hHeld.then hk) (fun hHeld2 => ?_)
          clear hK K
          have B62 := Lib.hid (B6.out.kept hk (by omega) (fun h => h))
          have c62 : b6 < Wb2.heap.size := by omega
          have B72 := Lib.hid (B7.out.kept hk (by omega) (fun h => h))
          have c72 : b7 < Wb2.heap.size := by omega
          have a5 : w3.heap.size ≤ Wb1.heap.size := hHeld.size
          have B52 := Lib.hid hb
          have c52 : Wb1.heap.size < Wb2.heap.size := by omega
          have n65 : b6 ≠ Wb1.heap.size := by omega
          have n75 : b7 ≠ Wb1.heap.size := by omega
          clear hb hk hz
          clear B6 c6 B7 c7
          generalize Wb1.heap.size = b5 at *
          have B6 := B62; have c6 := c62; clear B62 c62
          have B7 := B72; have c7 := c72; clear B72 c72
          have B5 := B52; have c5 := c52; clear B52 c52
          clear hHeld; have hHeld := hHeld2; clear hHeld2
          try (simp only [Act.put, List.getElem_toArray, List.getElem_cons_succ, List.getElem_cons_zero, List.setIfInBounds_toArray, List.set_cons_zero, List.set_cons_succ])
          refine wpAnyH_ready (rs := [9]) (by kernel_rfl) (by simp) ?_
          refine AllReadyH.cons (o := _) rfl (fun K hK => ?_) ?_
          · rw [if_pos (by simp [Region.wanted, yielded])]
            refine wp_store_mid _ _ _ rfl b5 0 (arr8 x).toArray rfl rfl ?_ ?_ (all_oneCell_toArray o0) ?_
            · intro j hj; rw [List.size_toArray, l0] at hj; exact ⟨by rw [B5.out.cell j (by rw [List.length_replicate]; exact hj)]; rfl, B5.out.free j (by rw [List.length_replicate]; exact hj)⟩
            · rw [List.size_toArray]; exact kj0
            simp only [List.toList_toArray]
            have hk : Kept (fun k => k = b5) Wb2 (Wb2.setCells b5 0 (arr8 x)) := Kept.setCells _ _ _ _
            have hb := B5.out.setCells (t := x) (by rw [List.length_replicate, HX.out])
            generalize Wb2.setCells b5 0 (arr8 x) = Wc0 at hb hk ⊢
            refine hK.out _ _ (hHeld.trans hk (T := fun _ => False) (fun _ _ h => h) (fun j hj e => by omega)) (fun hHeld2 => ?_)
            clear hK K
            have B52 := Lib.hid hb
            have c52 : b5 < Wc0.heap.size := Nat.lt_of_lt_of_le c5 hk.size
            have B62 := Lib.hid (B6.out.kept hk c6 n65)
            have c62 : b6 < Wc0.heap.size := Nat.lt_of_lt_of_le c6 hk.size
            have B72 := Lib.hid (B7.out.kept hk c7 n75)
            have c72 : b7 < Wc0.heap.size := Nat.lt_of_lt_of_le c7 hk.size
            clear hb hk B5 B6 B7 c5 c6 c7
            have B5 := B52; have c5 := c52; clear B52 c52
            have B6 := B62; have c6 := c62; clear B62 c62
            have B7 := B72; have c7 := c72; clear B72 c72
            clear hHeld; have hHeld := hHeld2; clear hHeld2
            try (simp only [Act.put, List.getElem_toArray, List.getElem_cons_succ, List.getElem_cons_zero, List.setIfInBounds_toArray, List.set_cons_zero, List.set_cons_succ])
            refine wpAnyH_ready (rs := [10]) (by kernel_rfl) (by simp) ?_
            refine AllReadyH.cons (o := _) rfl (fun K hK => ?_) ?_
            · rw [if_pos (by simp [Region.wanted, yielded])]
              refine wp_store_mid _ _ _ rfl b6 0 (arr8 y2).toArray rfl rfl ?_ ?_ (all_oneCell_toArray o1) ?_
              · intro j hj; rw [List.size_toArray, l1] at hj; exact ⟨by rw [B6.out.cell j (by rw [List.length_replicate]; exact hj)]; rfl, B6.out.free j (by rw [List.length_replicate]; exact hj)⟩
              · rw [List.size_toArray]; exact kj1
              simp only [List.toList_toArray]
              have hk : Kept (fun k => k = b6) Wc0 (Wc0.setCells b6 0 (arr8 y2)) := Kept.setCells _ _ _ _
              have hb := B6.out.setCells (t := y2) (by rw [List.length_replicate, HY2.out])
              generalize Wc0.setCells b6 0 (arr8 y2) = Wc1 at hb hk ⊢
              refine hK.out _ _ (hHeld.trans hk (T := fun _ => False) (fun _ _ h => h) (fun j hj e => by omega)) (fun hHeld2 => ?_)
              clear hK K
              have B52 := Lib.hid (B5.out.kept hk c5 (Ne.symm n65))
              have c52 : b5 < Wc1.heap.size := Nat.lt_of_lt_of_le c5 hk.size
              have B62 := Lib.hid hb
              have c62 : b6 < Wc1.heap.size := Nat.lt_of_lt_of_le c6 hk.size
              have B72 := Lib.hid (B7.out.kept hk c7 (Ne.symm n67))
              have c72 : b7 < Wc1.heap.size := Nat.lt_of_lt_of_le c7 hk.size
              clear hb hk B5 B6 B7 c5 c6 c7
              have B5 := B52; have c5 := c52; clear B52 c52
              have B6 := B62; have c6 := c62; clear B62 c62
              have B7 := B72; have c7 := c72; clear B72 c72
              clear hHeld; have hHeld := hHeld2; clear hHeld2
              try (simp only [Act.put, List.getElem_toArray, List.getElem_cons_succ, List.getElem_cons_zero, List.setIfInBounds_toArray, List.set_cons_zero, List.set_cons_succ])
              refine wpAnyH_ready (rs := [11]) (by kernel_rfl) (by simp) ?_
              refine AllReadyH.cons (o := _) rfl (fun K hK => ?_) ?_
              · rw [if_pos (by simp [Region.wanted, yielded])]
                refine wp_store_mid _ _ _ rfl b7 0 (arr8 z2).toArray rfl rfl ?_ ?_ (all_oneCell_toArray o2) ?_
                · intro j hj; rw [List.size_toArray, l2] at hj; exact ⟨by rw [B7.out.cell j (by rw [List.length_replicate]; exact hj)]; rfl, B7.out.free j (by rw [List.length_replicate]; exact hj)⟩
                · rw [List.size_toArray]; exact kj2
                simp only [List.toList_toArray]
                have hk : Kept (fun k => k = b7) Wc1 (Wc1.setCells b7 0 (arr8 z2)) := Kept.setCells _ _ _ _
                have hb := B7.out.setCells (t := z2) (by rw [List.length_replicate, HZ2.out])
                generalize Wc1.setCells b7 0 (arr8 z2) = Wc2 at hb hk ⊢
                refine hK.out _ _ (hHeld.trans hk (T := fun _ => False) (fun _ _ h => h) (fun j hj e => by omega)) (fun hHeld2 => ?_)
                clear hK K
                have B52 := Lib.hid (B5.out.kept hk c5 (Ne.symm n75))
                have c52 : b5 < Wc2.heap.size := Nat.lt_of_lt_of_le c5 hk.size
                have B62 := Lib.hid (B6.out.kept hk c6 n67)
                have c62 : b6 < Wc2.heap.size := Nat.lt_of_lt_of_le c6 hk.size
                have B72 := Lib.hid hb
                have c72 : b7 < Wc2.heap.size := Nat.lt_of_lt_of_le c7 hk.size
                clear hb hk B5 B6 B7 c5 c6 c7
                have B5 := B52; have c5 := c52; clear B52 c52
                have B6 := B62; have c6 := c62; clear B62 c62
                have B7 := B72; have c7 := c72; clear B72 c72
                clear hHeld; have hHeld := hHeld2; clear hHeld2
                try (simp only [Act.put, List.getElem_toArray, List.getElem_cons_succ, List.getElem_cons_zero, List.setIfInBounds_toArray, List.set_cons_zero, List.set_cons_succ])
                refine wpAnyH_done (by kernel_rfl) ?_ _
                go_wp2_with fail
                go_meet
                exact ⟨b5, b6, b7, rfl, rfl, rfl, B5, B6, B7, c5, c6, c7, hHeld⟩
              exact AllReadyH.nil
            exact AllReadyH.nil
          exact AllReadyH.nil
        exact AllReadyH.nil
      exact AllReadyH.nil
    refine AllReadyH.cons (o := _) rfl (fun K hK => ?_) ?_
    · go_simp
      have hb : Blk (Wa.alloc (.cells (arr8 (List.replicate 32 0)).toArray 27)) Wa.heap.size 0 (List.replicate 32 0) := blk_new Wa _ _ _ rfl
      have hk : Kept (fun _ => False) Wa (Wa.alloc (.cells (arr8 (List.replicate 32 0)).toArray 27)) := Kept.alloc _ _ _
      have hz : (Wa.alloc (.cells (arr8 (List.replicate 32 0)).toArray 27)).heap.size = Wa.heap.size + 1 := by simp
      change K _ (Wa.alloc (.cells (arr8 (List.replicate 32 0)).toArray 27))
      generalize Wa.alloc (.cells (arr8 (List.replicate 32 0)).toArray 27) = Wb0 at hb hk hz ⊢
      refine hK.out _ _ (hHeld.then hk) (fun hHeld2 => ?_)
      clear hK K
      have a7 : w3.heap.size ≤ Wa.heap.size := hHeld.size
      have B72 := Lib.hid hb
      have c72 : Wa.heap.size < Wb0.heap.size := by omega
      clear hb hk hz
      generalize Wa.heap.size = b7 at *
      have B7 := B72; have c7 := c72; clear B72 c72
      clear hHeld; have hHeld := hHeld2; clear hHeld2
      try (simp only [Act.put, List.getElem_toArray, List.getElem_cons_succ, List.getElem_cons_zero, List.setIfInBounds_toArray, List.set_cons_zero, List.set_cons_succ])
      refine wpAnyH_ready (rs := [6, 7]) (by kernel_rfl) (by simp) ?_
      refine AllReadyH.cons (o := _) rfl (fun K hK => ?_) ?_
      · go_simp
        have hb : Blk (Wb0.alloc (.cells (arr8 (List.replicate 32 0)).toArray 27)) Wb0.heap.size 0 (List.replicate 32 0) := blk_new Wb0 _ _ _ rfl
        have hk : Kept (fun _ => False) Wb0 (Wb0.alloc (.cells (arr8 (List.replicate 32 0)).toArray 27)) := Kept.alloc _ _ _
        have hz : (Wb0.alloc (.cells (arr8 (List.replicate 32 0)).toArray 27)).heap.size = Wb0.heap.size + 1 := by simp
        change K _ (Wb0.alloc (.cells (arr8 (List.replicate 32 0)).toArray 27))
        generalize Wb0.alloc (.cells (arr8 (List.replicate 32 0)).toArray 27) = Wb1 at hb hk hz ⊢
        refine hK.out _ _ (hHeld.then hk) (fun hHeld2 => ?_)
        clear hK K
        have B72 := Lib.hid (B7.out.kept hk (by omega) (fun h => h))
        have c72 : b7 < Wb1.heap.size := by omega
        have a5 : w3.heap.size ≤ Wb0.heap.size := hHeld.size
        have B52 := Lib.hid hb
        have c52 : Wb0.heap.size < Wb1.heap.size := by omega
        have n75 : b7 ≠ Wb0.heap.size := by omega
        clear hb hk hz
        clear B7 c7
        generalize Wb0.heap.size = b5 at *
        have B7 := B72; have c7 := c72; clear B72 c72
        have B5 := B52; have c5 := c52; clear B52 c52
        clear hHeld; have hHeld := hHeld2; clear hHeld2
        try (simp only [Act.put, List.getElem_toArray, List.getElem_cons_succ, List.getElem_cons_zero, List.setIfInBounds_toArray, List.set_cons_zero, List.set_cons_succ])
        refine wpAnyH_ready (rs := [7]) (by kernel_rfl) (by simp) ?_
        refine AllReadyH.cons (o := _) rfl (fun K hK => ?_) ?_
        · go_simp
          have hb : Blk (Wb1.alloc (.cells (arr8 (List.replicate 32 0)).toArray 27)) Wb1.heap.size 0 (List.replicate 32 0) := blk_new Wb1 _ _ _ rfl
          have hk : Kept (fun _ => False) Wb1 (Wb1.alloc (.cells (arr8 (List.replicate 32 0)).toArray 27)) := Kept.alloc _ _ _
          have hz : (Wb1.alloc (.cells (arr8 (List.replicate 32 0)).toArray 27)).heap.size = Wb1.heap.size + 1 := by simp
          change K _ (Wb1.alloc (.cells (arr8 (List.replicate 32 0)).toArray 27))
          generalize Wb1.alloc (.cells (arr8 (List.replicate 32 0)).toArray 27) = Wb2 at hb hk hz ⊢
          refine hK.out _ _ (hHeld.then hk) (fun hHeld2 => ?_)
          clear hK K
          have B72 := Lib.hid (B7.out.kept hk (by omega) (fun h => h))
          have c72 : b7 < Wb2.heap.size := by omega
          have B52 := Lib.hid (B5.out.kept hk (by omega) (fun h => h))
          have c52 : b5 < Wb2.heap.size := by omega
          have a6 : w3.heap.size ≤ Wb1.heap.size := hHeld.size
          have B62 := Lib.hid hb
          have c62 : Wb1.heap.size < Wb2.heap.size := by omega
          have n76 : b7 ≠ Wb1.heap.size := by omega
          have n56 : b5 ≠ Wb1.heap.size := by omega
          clear hb hk hz
          clear B7 c7 B5 c5
          generalize Wb1.heap.size = b6 at *
          have B7 := B72; have c7 := c72; clear B72 c72
          have B5 := B52; have c5 := c52; clear B52 c52
          have B6 := B62; have c6 := c62; clear B62 c62
          clear hHeld; have hHeld := hHeld2; clear hHeld2
          try (simp only [Act.put, List.getElem_toArray, List.getElem_cons_succ, List.getElem_cons_zero, List.setIfInBounds_toArray, List.set_cons_zero, List.set_cons_succ])
          refine wpAnyH_ready (rs := [9]) (by kernel_rfl) (by simp) ?_
          refine AllReadyH.cons (o := _) rfl (fun K hK => ?_) ?_
          · rw [if_pos (by simp [Region.wanted, yielded])]
            refine wp_store_mid _ _ _ rfl b5 0 (arr8 x).toArray rfl rfl ?_ ?_ (all_oneCell_toArray o0) ?_
            · intro j hj; rw [List.size_toArray, l0] at hj; exact ⟨by rw [B5.out.cell j (by rw [List.length_replicate]; exact hj)]; rfl, B5.out.free j (by rw [List.length_replicate]; exact hj)⟩
            · rw [List.size_toArray]; exact kj0
            simp only [List.toList_toArray]
            have hk : Kept (fun k => k = b5) Wb2 (Wb2.setCells b5 0 (arr8 x)) := Kept.setCells _ _ _ _
            have hb := B5.out.setCells (t := x) (by rw [List.length_replicate, HX.out])
            generalize Wb2.setCells b5 0 (arr8 x) = Wc0 at hb hk ⊢
            refine hK.out _ _ (hHeld.trans hk (T := fun _ => False) (fun _ _ h => h) (fun j hj e => by omega)) (fun hHeld2 => ?_)
            clear hK K
            have B52 := Lib.hid hb
            have c52 : b5 < Wc0.heap.size := Nat.lt_of_lt_of_le c5 hk.size
            have B62 := Lib.hid (B6.out.kept hk c6 (Ne.symm n56))
            have c62 : b6 < Wc0.heap.size := Nat.lt_of_lt_of_le c6 hk.size
            have B72 := Lib.hid (B7.out.kept hk c7 n75)
            have c72 : b7 < Wc0.heap.size := Nat.lt_of_lt_of_le c7 hk.size
            clear hb hk B5 B6 B7 c5 c6 c7
            have B5 := B52; have c5 := c52; clear B52 c52
            have B6 := B62; have c6 := c62; clear B62 c62
            have B7 := B72; have c7 := c72; clear B72 c72
            clear hHeld; have hHeld := hHeld2; clear hHeld2
            try (simp only [Act.put, List.getElem_toArray, List.getElem_cons_succ, List.getElem_cons_zero, List.setIfInBounds_toArray, List.set_cons_zero, List.set_cons_succ])
            refine wpAnyH_ready (rs := [10]) (by kernel_rfl) (by simp) ?_
            refine AllReadyH.cons (o := _) rfl (fun K hK => ?_) ?_
            · rw [if_pos (by simp [Region.wanted, yielded])]
              refine wp_store_mid _ _ _ rfl b6 0 (arr8 y2).toArray rfl rfl ?_ ?_ (all_oneCell_toArray o1) ?_
              · intro j hj; rw [List.size_toArray, l1] at hj; exact ⟨by rw [B6.out.cell j (by rw [List.length_replicate]; exact hj)]; rfl, B6.out.free j (by rw [List.length_replicate]; exact hj)⟩
              · rw [List.size_toArray]; exact kj1
              simp only [List.toList_toArray]
              have hk : Kept (fun k => k = b6) Wc0 (Wc0.setCells b6 0 (arr8 y2)) := Kept.setCells _ _ _ _
              have hb := B6.out.setCells (t := y2) (by rw [List.length_replicate, HY2.out])
              generalize Wc0.setCells b6 0 (arr8 y2) = Wc1 at hb hk ⊢
              refine hK.out _ _ (hHeld.trans hk (T := fun _ => False) (fun _ _ h => h) (fun j hj e => by omega)) (fun hHeld2 => ?_)
              clear hK K
              have B52 := Lib.hid (B5.out.kept hk c5 n56)
              have c52 : b5 < Wc1.heap.size := Nat.lt_of_lt_of_le c5 hk.size
              have B62 := Lib.hid hb
              have c62 : b6 < Wc1.heap.size := Nat.lt_of_lt_of_le c6 hk.size
              have B72 := Lib.hid (B7.out.kept hk c7 n76)
              have c72 : b7 < Wc1.heap.size := Nat.lt_of_lt_of_le c7 hk.size
              clear hb hk B5 B6 B7 c5 c6 c7
              have B5 := B52; have c5 := c52; clear B52 c52
              have B6 := B62; have c6 := c62; clear B62 c62
              have B7 := B72; have c7 := c72; clear B72 c72
              clear hHeld; have hHeld := hHeld2; clear hHeld2
              try (simp only [Act.put, List.getElem_toArray, List.getElem_cons_succ, List.getElem_cons_zero, List.setIfInBounds_toArray, List.set_cons_zero, List.set_cons_succ])
              refine wpAnyH_ready (rs := [11]) (by kernel_rfl) (by simp) ?_
              refine AllReadyH.cons (o := _) rfl (fun K hK => ?_) ?_
              · rw [if_pos (by simp [Region.wanted, yielded])]
                refine wp_store_mid _ _ _ rfl b7 0 (arr8 z2).toArray rfl rfl ?_ ?_ (all_oneCell_toArray o2) ?_
                · intro j hj; rw [List.size_toArray, l2] at hj; exact ⟨by rw [B7.out.cell j (by rw [List.length_replicate]; exact hj)]; rfl, B7.out.free j (by rw [List.length_replicate]; exact hj)⟩
                · rw [List.size_toArray]; exact kj2
                simp only [List.toList_toArray]
                have hk : Kept (fun k => k = b7) Wc1 (Wc1.setCells b7 0 (arr8 z2)) := Kept.setCells _ _ _ _
                have hb := B7.out.setCells (t := z2) (by rw [List.length_replicate, HZ2.out])
                generalize Wc1.setCells b7 0 (arr8 z2) = Wc2 at hb hk ⊢
                refine hK.out _ _ (hHeld.trans hk (T := fun _ => False) (fun _ _ h => h) (fun j hj e => by omega)) (fun hHeld2 => ?_)
                clear hK K
                have B52 := Lib.hid (B5.out.kept hk c5 (Ne.symm n75))
                have c52 : b5 < Wc2.heap.size := Nat.lt_of_lt_of_le c5 hk.size
                have B62 := Lib.hid (B6.out.kept hk c6 (Ne.symm n76))
                have c62 : b6 < Wc2.heap.size := Nat.lt_of_lt_of_le c6 hk.size
                have B72 := Lib.hid hb
                have c72 : b7 < Wc2.heap.size := Nat.lt_of_lt_of_le c7 hk.size
                clear hb hk B5 B6 B7 c5 c6 c7
                have B5 := B52; have c5 := c52; clear B52 c52
                have B6 := B62; have c6 := c62; clear B62 c62
                have B7 := B72; have c7 := c72; clear B72 c72
                clear hHeld; have hHeld := hHeld2; clear hHeld2
                try (simp only [Act.put, List.getElem_toArray, List.getElem_cons_succ, List.getElem_cons_zero, List.setIfInBounds_toArray, List.set_cons_zero, List.set_cons_succ])
                refine wpAnyH_done (by kernel_rfl) ?_ _
                go_wp2_with fail
                go_meet
                exact ⟨b5, b6, b7, rfl, rfl, rfl, B5, B6, B7, c5, c6, c7, hHeld⟩
              exact AllReadyH.nil
            exact AllReadyH.nil
          exact AllReadyH.nil
        exact AllReadyH.nil
      refine AllReadyH.cons (o := _) rfl (fun K hK => ?_) ?_
      · go_simp
        have hb : Blk (Wb0.alloc (.cells (arr8 (List.replicate 32 0)).toArray 27)) Wb0.heap.size 0 (List.replicate 32 0) := blk_new Wb0 _ _ _ rfl
        have hk : Kept (fun _ => False) Wb0 (Wb0.alloc (.cells (arr8 (List.replicate 32 0)).toArray 27)) := Kept.alloc _ _ _
        have hz : (Wb0.alloc (.cells (arr8 (List.replicate 32 0)).toArray 27)).heap.size = Wb0.heap.size + 1 := by simp
        change K _ (Wb0.alloc (.cells (arr8 (List.replicate 32 0)).toArray 27))
        generalize Wb0.alloc (.cells (arr8 (List.replicate 32 0)).toArray 27) = Wb1 at hb hk hz ⊢
        refine hK.out _ _ (hHeld.then hk) (fun hHeld2 => ?_)
        clear hK K
        have B72 := Lib.hid (B7.out.kept hk (by omega) (fun h => h))
        have c72 : b7 < Wb1.heap.size := by omega
        have a6 : w3.heap.size ≤ Wb0.heap.size := hHeld.size
        have B62 := Lib.hid hb
        have c62 : Wb0.heap.size < Wb1.heap.size := by omega
        have n76 : b7 ≠ Wb0.heap.size := by omega
        clear hb hk hz
        clear B7 c7
        generalize Wb0.heap.size = b6 at *
        have B7 := B72; have c7 := c72; clear B72 c72
        have B6 := B62; have c6 := c62; clear B62 c62
        clear hHeld; have hHeld := hHeld2; clear hHeld2
        try (simp only [Act.put, List.getElem_toArray, List.getElem_cons_succ, List.getElem_cons_zero, List.setIfInBounds_toArray, List.set_cons_zero, List.set_cons_succ])
        refine wpAnyH_ready (rs := [6]) (by kernel_rfl) (by simp) ?_
        refine AllReadyH.cons (o := _) rfl (fun K hK => ?_) ?_
        · go_simp
          have hb : Blk (Wb1.alloc (.cells (arr8 (List.replicate 32 0)).toArray 27)) Wb1.heap.size 0 (List.replicate 32 0) := blk_new Wb1 _ _ _ rfl
          have hk : Kept (fun _ => False) Wb1 (Wb1.alloc (.cells (arr8 (List.replicate 32 0)).toArray 27)) := Kept.alloc _ _ _
          have hz : (Wb1.alloc (.cells (arr8 (List.replicate 32 0)).toArray 27)).heap.size = Wb1.heap.size + 1 := by simp
          change K _ (Wb1.alloc (.cells (arr8 (List.replicate 32 0)).toArray 27))
          generalize Wb1.alloc (.cells (arr8 (List.replicate 32 0)).toArray 27) = Wb2 at hb hk hz ⊢
          refine hK.out _ _ (hHeld.then hk) (fun hHeld2 => ?_)
          clear hK K
          have B72 := Lib.hid (B7.out.kept hk (by omega) (fun h => h))
          have c72 : b7 < Wb2.heap.size := by omega
          have B62 := Lib.hid (B6.out.kept hk (by omega) (fun h => h))
          have c62 : b6 < Wb2.heap.size := by omega
          have a5 : w3.heap.size ≤ Wb1.heap.size := hHeld.size
          have B52 := Lib.hid hb
          have c52 : Wb1.heap.size < Wb2.heap.size := by omega
          have n75 : b7 ≠ Wb1.heap.size := by omega
          have n65 : b6 ≠ Wb1.heap.size := by omega
          clear hb hk hz
          clear B7 c7 B6 c6
          generalize Wb1.heap.size = b5 at *
          have B7 := B72; have c7 := c72; clear B72 c72
          have B6 := B62; have c6 := c62; clear B62 c62
          have B5 := B52; have c5 := c52; clear B52 c52
          clear hHeld; have hHeld := hHeld2; clear hHeld2
          try (simp only [Act.put, List.getElem_toArray, List.getElem_cons_succ, List.getElem_cons_zero, List.setIfInBounds_toArray, List.set_cons_zero, List.set_cons_succ])
          refine wpAnyH_ready (rs := [9]) (by kernel_rfl) (by simp) ?_
          refine AllReadyH.cons (o := _) rfl (fun K hK => ?_) ?_
          · rw [if_pos (by simp [Region.wanted, yielded])]
            refine wp_store_mid _ _ _ rfl b5 0 (arr8 x).toArray rfl rfl ?_ ?_ (all_oneCell_toArray o0) ?_
            · intro j hj; rw [List.size_toArray, l0] at hj; exact ⟨by rw [B5.out.cell j (by rw [List.length_replicate]; exact hj)]; rfl, B5.out.free j (by rw [List.length_replicate]; exact hj)⟩
            · rw [List.size_toArray]; exact kj0
            simp only [List.toList_toArray]
            have hk : Kept (fun k => k = b5) Wb2 (Wb2.setCells b5 0 (arr8 x)) := Kept.setCells _ _ _ _
            have hb := B5.out.setCells (t := x) (by rw [List.length_replicate, HX.out])
            generalize Wb2.setCells b5 0 (arr8 x) = Wc0 at hb hk ⊢
            refine hK.out _ _ (hHeld.trans hk (T := fun _ => False) (fun _ _ h => h) (fun j hj e => by omega)) (fun hHeld2 => ?_)
            clear hK K
            have B52 := Lib.hid hb
            have c52 : b5 < Wc0.heap.size := Nat.lt_of_lt_of_le c5 hk.size
            have B62 := Lib.hid (B6.out.kept hk c6 n65)
            have c62 : b6 < Wc0.heap.size := Nat.lt_of_lt_of_le c6 hk.size
            have B72 := Lib.hid (B7.out.kept hk c7 n75)
            have c72 : b7 < Wc0.heap.size := Nat.lt_of_lt_of_le c7 hk.size
            clear hb hk B5 B6 B7 c5 c6 c7
            have B5 := B52; have c5 := c52; clear B52 c52
            have B6 := B62; have c6 := c62; clear B62 c62
            have B7 := B72; have c7 := c72; clear B72 c72
            clear hHeld; have hHeld := hHeld2; clear hHeld2
            try (simp only [Act.put, List.getElem_toArray, List.getElem_cons_succ, List.getElem_cons_zero, List.setIfInBounds_toArray, List.set_cons_zero, List.set_cons_succ])
            refine wpAnyH_ready (rs := [10]) (by kernel_rfl) (by simp) ?_
            refine AllReadyH.cons (o := _) rfl (fun K hK => ?_) ?_
            · rw [if_pos (by simp [Region.wanted, yielded])]
              refine wp_store_mid _ _ _ rfl b6 0 (arr8 y2).toArray rfl rfl ?_ ?_ (all_oneCell_toArray o1) ?_
              · intro j hj; rw [List.size_toArray, l1] at hj; exact ⟨by rw [B6.out.cell j (by rw [List.length_replicate]; exact hj)]; rfl, B6.out.free j (by rw [List.length_replicate]; exact hj)⟩
              · rw [List.size_toArray]; exact kj1
              simp only [List.toList_toArray]
              have hk : Kept (fun k => k = b6) Wc0 (Wc0.setCells b6 0 (arr8 y2)) := Kept.setCells _ _ _ _
              have hb := B6.out.setCells (t := y2) (by rw [List.length_replicate, HY2.out])
              generalize Wc0.setCells b6 0 (arr8 y2) = Wc1 at hb hk ⊢
              refine hK.out _ _ (hHeld.trans hk (T := fun _ => False) (fun _ _ h => h) (fun j hj e => by omega)) (fun hHeld2 => ?_)
              clear hK K
              have B52 := Lib.hid (B5.out.kept hk c5 (Ne.symm n65))
              have c52 : b5 < Wc1.heap.size := Nat.lt_of_lt_of_le c5 hk.size
              have B62 := Lib.hid hb
              have c62 : b6 < Wc1.heap.size := Nat.lt_of_lt_of_le c6 hk.size
              have B72 := Lib.hid (B7.out.kept hk c7 n76)
              have c72 : b7 < Wc1.heap.size := Nat.lt_of_lt_of_le c7 hk.size
              clear hb hk B5 B6 B7 c5 c6 c7
              have B5 := B52; have c5 := c52; clear B52 c52
              have B6 := B62; have c6 := c62; clear B62 c62
              have B7 := B72; have c7 := c72; clear B72 c72
              clear hHeld; have hHeld := hHeld2; clear hHeld2
              try (simp only [Act.put, List.getElem_toArray, List.getElem_cons_succ, List.getElem_cons_zero, List.setIfInBounds_toArray, List.set_cons_zero, List.set_cons_succ])
              refine wpAnyH_ready (rs := [11]) (by kernel_rfl) (by simp) ?_
              refine AllReadyH.cons (o := _) rfl (fun K hK => ?_) ?_
              · rw [if_pos (by simp [Region.wanted, yielded])]
                refine wp_store_mid _ _ _ rfl b7 0 (arr8 z2).toArray rfl rfl ?_ ?_ (all_oneCell_toArray o2) ?_
                · intro j hj; rw [List.size_toArray, l2] at hj; exact ⟨by rw [B7.out.cell j (by rw [List.length_replicate]; exact hj)]; rfl, B7.out.free j (by rw [List.length_replicate]; exact hj)⟩
                · rw [List.size_toArray]; exact kj2
                simp only [List.toList_toArray]
                have hk : Kept (fun k => k = b7) Wc1 (Wc1.setCells b7 0 (arr8 z2)) := Kept.setCells _ _ _ _
                have hb := B7.out.setCells (t := z2) (by rw [List.length_replicate, HZ2.out])
                generalize Wc1.setCells b7 0 (arr8 z2) = Wc2 at hb hk ⊢
                refine hK.out _ _ (hHeld.trans hk (T := fun _ => False) (fun _ _ h => h) (fun j hj e => by omega)) (fun hHeld2 => ?_)
                clear hK K
                have B52 := Lib.hid (B5.out.kept hk c5 (Ne.symm n75))
                have c52 : b5 < Wc2.heap.size := Nat.lt_of_lt_of_le c5 hk.size
                have B62 := Lib.hid (B6.out.kept hk c6 (Ne.symm n76))
                have c62 : b6 < Wc2.heap.size := Nat.lt_of_lt_of_le c6 hk.size
                have B72 := Lib.hid hb
                have c72 : b7 < Wc2.heap.size := Nat.lt_of_lt_of_le c7 hk.size
                clear hb hk B5 B6 B7 c5 c6 c7
                have B5 := B52; have c5 := c52; clear B52 c52
                have B6 := B62; have c6 := c62; clear B62 c62
                have B7 := B72; have c7 := c72; clear B72 c72
                clear hHeld; have hHeld := hHeld2; clear hHeld2
                try (simp only [Act.put, List.getElem_toArray, List.getElem_cons_succ, List.getElem_cons_zero, List.setIfInBounds_toArray, List.set_cons_zero, List.set_cons_succ])
                refine wpAnyH_done (by kernel_rfl) ?_ _
                go_wp2_with fail
                go_meet
                exact ⟨b5, b6, b7, rfl, rfl, rfl, B5, B6, B7, c5, c6, c7, hHeld⟩
              exact AllReadyH.nil
            exact AllReadyH.nil
          exact AllReadyH.nil
        exact AllReadyH.nil
      exact AllReadyH.nil
    exact AllReadyH.nil
  case rest =>
    obtain ⟨b5, b6, b7, rfl, rfl, rfl, B5, B6, B7, c5, c6, c7, kx⟩ := hcut
    have KX := Lib.hid (K3.out.then kx.out)
    have HL5 : Hid (∀ W, Kept (fun _ => False) wc W → W.rangeAt b5 0 (arr8 x)) := fun W hW => (B5.out.kept hW c5 (fun h => h)).get
    have HL6 : Hid (∀ W, Kept (fun _ => False) wc W → W.rangeAt b6 0 (arr8 y2)) := fun W hW => (B6.out.kept hW c6 (fun h => h)).get
    have HL7 : Hid (∀ W, Kept (fun _ => False) wc W → W.rangeAt b7 0 (arr8 z2)) := fun W hW => (B7.out.kept hW c7 (fun h => h)).get
    have HG0 : Hid (∀ W, Kept (fun _ => False) wc W → W.rangeAt g 0 (arr8 x)) := fun W hW => (HSK.out W (kx.out.then hW)).1
    have HG1 : Hid (∀ W, Kept (fun _ => False) wc W → W.rangeAt g 32 (arr8 y2)) := fun W hW => (HSK.out W (kx.out.then hW)).2.1
    have R1 := cmp_rng x y2
    have H01 := Lib.hid (fun W => idcmp_any x y2 HX.out HY2.out BX.out BY2.out W)
    have H10 := Lib.hid (fun W => idcmp_any y2 x HY2.out HX.out BY2.out BX.out W)
    rw [cmp_anti x y2] at H10
    have H00 := Lib.hid (fun W => idcmp_any x x HX.out HX.out BX.out BX.out W)
    rw [cmp_self x] at H00
    have H12 := Lib.hid (fun W => idcmp_any y2 z2 HY2.out HZ2.out BY2.out BZ2.out W)
    have H02 := Lib.hid (fun W => idcmp_any x z2 HX.out HZ2.out BX.out BZ2.out W)
    have HRF := Lib.hid (fun W => rcmp_any x y2 HX.out HY2.out W)
    have HEQ : Hid (∀ W : World, (Op.equalIn 10000 27 (.agg (arr8 x).toArray) (.agg (arr8 y2).toArray)).run Tryd.prog W = .ok (decide (cmpL x y2 = 0)) W) := fun W => by
      have h := eq32 W x y2 HX.out HY2.out
      rw [h]
      congr 1
      exact Bool.eq_iff_iff.2 (by rw [decide_eq_true_iff, decide_eq_true_iff]; exact (cmp_zero x y2).symm)
    have HTR := Lib.hid (cmp_trans x y2 z2)
    generalize cmpL x y2 = c at R1 H01 H10 HRF HEQ HTR
    generalize cmpL y2 z2 = c12 at H12 HTR
    generalize cmpL x z2 = c02 at H02 HTR
    have KU := Lib.hid ku; have KI0 := Lib.hid ki0; have KI1 := Lib.hid ki1; have KJ0 := Lib.hid kj0; have KJ1 := Lib.hid kj1; have KJ2 := Lib.hid kj2
    clear HSK ku ki ki0 ki1 ki2 kj kj0 kj1 kj2 o0 o1 o2 l0 l1 l2 B5 B6 B7 c5 c6 c7 kx HT H3 K3
    generalize arr8 x = ax at *
    generalize arr8 y2 = ay at *
    generalize arr8 z2 = az at *
    have hcc : c = 1 ∨ c = -1 ∨ c = 0 := by omega
    clear R1
    rcases hcc with rfl | rfl | rfl
    · have f5 := Lib.hid (HL5.out wc (Kept.refl _ _)); have f6 := Lib.hid (HL6.out wc (Kept.refl _ _))
      have eq := HEQ.out
      simp at eq
      clear HEQ
      go_wp2_with (first | (refine wpList_load_want ?_ 27 _ rfl b5 0 rfl ax _ f5.out Tryd.underlying27 rfl KJ0.out ?_; focus (simp [Region.wanted, yielded, Act.put]; done)) | (refine wpList_load_want ?_ 27 _ rfl b6 0 rfl ay _ f6.out Tryd.underlying27 rfl KJ1.out ?_; focus (simp [Region.wanted, yielded, Act.put]; done)) | (refine wpList_load_want ?_ 27 _ rfl b7 0 rfl az _ f7.out Tryd.underlying27 rfl KJ2.out ?_; focus (simp [Region.wanted, yielded, Act.put]; done)) | (refine wpList_load_want ?_ 22 _ rfl g 0 rfl ax _ g0.out KU.out rfl KI0.out ?_; focus (simp [Region.wanted, yielded, Act.put]; done)) | (refine wpList_load_want ?_ 22 _ rfl g 32 rfl ay _ g1.out KU.out rfl KI1.out ?_; focus (simp [Region.wanted, yielded, Act.put]; done)))
      refine (H01.out _).mono ?_
      rintro e wd ⟨rfl, kd⟩
      have KD := Lib.hid kd
      have g0 := Lib.hid (HG0.out wd kd); have g1 := Lib.hid (HG1.out wd kd)
      clear kd f5 f6 H01
      go_wp2_with (first | (refine wpList_load_want ?_ 27 _ rfl b5 0 rfl ax _ f5.out Tryd.underlying27 rfl KJ0.out ?_; focus (simp [Region.wanted, yielded, Act.put]; done)) | (refine wpList_load_want ?_ 27 _ rfl b6 0 rfl ay _ f6.out Tryd.underlying27 rfl KJ1.out ?_; focus (simp [Region.wanted, yielded, Act.put]; done)) | (refine wpList_load_want ?_ 27 _ rfl b7 0 rfl az _ f7.out Tryd.underlying27 rfl KJ2.out ?_; focus (simp [Region.wanted, yielded, Act.put]; done)) | (refine wpList_load_want ?_ 22 _ rfl g 0 rfl ax _ g0.out KU.out rfl KI0.out ?_; focus (simp [Region.wanted, yielded, Act.put]; done)) | (refine wpList_load_want ?_ 22 _ rfl g 32 rfl ay _ g1.out KU.out rfl KI1.out ?_; focus (simp [Region.wanted, yielded, Act.put]; done)))
      refine (HRF.out _).mono ?_
      rintro e we ⟨rfl, ke⟩
      have KE := Lib.hid (KD.out.then ke)
      have f5 := Lib.hid (HL5.out we KE.out); have f6 := Lib.hid (HL6.out we KE.out)
      clear ke g0 g1 HRF
      go_wp2_with (first | (refine wpList_load_want ?_ 27 _ rfl b5 0 rfl ax _ f5.out Tryd.underlying27 rfl KJ0.out ?_; focus (simp [Region.wanted, yielded, Act.put]; done)) | (refine wpList_load_want ?_ 27 _ rfl b6 0 rfl ay _ f6.out Tryd.underlying27 rfl KJ1.out ?_; focus (simp [Region.wanted, yielded, Act.put]; done)) | (refine wpList_load_want ?_ 27 _ rfl b7 0 rfl az _ f7.out Tryd.underlying27 rfl KJ2.out ?_; focus (simp [Region.wanted, yielded, Act.put]; done)) | (refine wpList_load_want ?_ 22 _ rfl g 0 rfl ax _ g0.out KU.out rfl KI0.out ?_; focus (simp [Region.wanted, yielded, Act.put]; done)) | (refine wpList_load_want ?_ 22 _ rfl g 32 rfl ay _ g1.out KU.out rfl KI1.out ?_; focus (simp [Region.wanted, yielded, Act.put]; done)))
      refine (H10.out _).mono ?_
      rintro e wf ⟨rfl, kf⟩
      have KF := Lib.hid (KE.out.then kf)
      clear f5 f6
      have f5 := Lib.hid (HL5.out wf KF.out); have f6 := Lib.hid (HL6.out wf KF.out)
      clear kf H10
      go_wp2_with (first | (refine wpList_load_want ?_ 27 _ rfl b5 0 rfl ax _ f5.out Tryd.underlying27 rfl KJ0.out ?_; focus (simp [Region.wanted, yielded, Act.put]; done)) | (refine wpList_load_want ?_ 27 _ rfl b6 0 rfl ay _ f6.out Tryd.underlying27 rfl KJ1.out ?_; focus (simp [Region.wanted, yielded, Act.put]; done)) | (refine wpList_load_want ?_ 27 _ rfl b7 0 rfl az _ f7.out Tryd.underlying27 rfl KJ2.out ?_; focus (simp [Region.wanted, yielded, Act.put]; done)) | (refine wpList_load_want ?_ 22 _ rfl g 0 rfl ax _ g0.out KU.out rfl KI0.out ?_; focus (simp [Region.wanted, yielded, Act.put]; done)) | (refine wpList_load_want ?_ 22 _ rfl g 32 rfl ay _ g1.out KU.out rfl KI1.out ?_; focus (simp [Region.wanted, yielded, Act.put]; done)))
      refine (H00.out _).mono ?_
      rintro e wg ⟨rfl, kg⟩
      have KG := Lib.hid (KF.out.then kg)
      clear f5 f6
      have f5 := Lib.hid (HL5.out wg KG.out); have f6 := Lib.hid (HL6.out wg KG.out); have f7 := Lib.hid (HL7.out wg KG.out)
      clear kg H00
      go_wp2_with (first | (refine wpList_load_want ?_ 27 _ rfl b5 0 rfl ax _ f5.out Tryd.underlying27 rfl KJ0.out ?_; focus (simp [Region.wanted, yielded, Act.put]; done)) | (refine wpList_load_want ?_ 27 _ rfl b6 0 rfl ay _ f6.out Tryd.underlying27 rfl KJ1.out ?_; focus (simp [Region.wanted, yielded, Act.put]; done)) | (refine wpList_load_want ?_ 27 _ rfl b7 0 rfl az _ f7.out Tryd.underlying27 rfl KJ2.out ?_; focus (simp [Region.wanted, yielded, Act.put]; done)) | (refine wpList_load_want ?_ 22 _ rfl g 0 rfl ax _ g0.out KU.out rfl KI0.out ?_; focus (simp [Region.wanted, yielded, Act.put]; done)) | (refine wpList_load_want ?_ 22 _ rfl g 32 rfl ay _ g1.out KU.out rfl KI1.out ?_; focus (simp [Region.wanted, yielded, Act.put]; done)))
      go_ret
      exact ⟨rfl, KX.out.then KG.out⟩
    · have f5 := Lib.hid (HL5.out wc (Kept.refl _ _)); have f6 := Lib.hid (HL6.out wc (Kept.refl _ _))
      have eq := HEQ.out
      simp at eq
      clear HEQ
      go_wp2_with (first | (refine wpList_load_want ?_ 27 _ rfl b5 0 rfl ax _ f5.out Tryd.underlying27 rfl KJ0.out ?_; focus (simp [Region.wanted, yielded, Act.put]; done)) | (refine wpList_load_want ?_ 27 _ rfl b6 0 rfl ay _ f6.out Tryd.underlying27 rfl KJ1.out ?_; focus (simp [Region.wanted, yielded, Act.put]; done)) | (refine wpList_load_want ?_ 27 _ rfl b7 0 rfl az _ f7.out Tryd.underlying27 rfl KJ2.out ?_; focus (simp [Region.wanted, yielded, Act.put]; done)) | (refine wpList_load_want ?_ 22 _ rfl g 0 rfl ax _ g0.out KU.out rfl KI0.out ?_; focus (simp [Region.wanted, yielded, Act.put]; done)) | (refine wpList_load_want ?_ 22 _ rfl g 32 rfl ay _ g1.out KU.out rfl KI1.out ?_; focus (simp [Region.wanted, yielded, Act.put]; done)))
      refine (H01.out _).mono ?_
      rintro e wd ⟨rfl, kd⟩
      have KD := Lib.hid kd
      have g0 := Lib.hid (HG0.out wd kd); have g1 := Lib.hid (HG1.out wd kd)
      clear kd f5 f6 H01
      go_wp2_with (first | (refine wpList_load_want ?_ 27 _ rfl b5 0 rfl ax _ f5.out Tryd.underlying27 rfl KJ0.out ?_; focus (simp [Region.wanted, yielded, Act.put]; done)) | (refine wpList_load_want ?_ 27 _ rfl b6 0 rfl ay _ f6.out Tryd.underlying27 rfl KJ1.out ?_; focus (simp [Region.wanted, yielded, Act.put]; done)) | (refine wpList_load_want ?_ 27 _ rfl b7 0 rfl az _ f7.out Tryd.underlying27 rfl KJ2.out ?_; focus (simp [Region.wanted, yielded, Act.put]; done)) | (refine wpList_load_want ?_ 22 _ rfl g 0 rfl ax _ g0.out KU.out rfl KI0.out ?_; focus (simp [Region.wanted, yielded, Act.put]; done)) | (refine wpList_load_want ?_ 22 _ rfl g 32 rfl ay _ g1.out KU.out rfl KI1.out ?_; focus (simp [Region.wanted, yielded, Act.put]; done)))
      refine (HRF.out _).mono ?_
      rintro e we ⟨rfl, ke⟩
      have KE := Lib.hid (KD.out.then ke)
      have f5 := Lib.hid (HL5.out we KE.out); have f6 := Lib.hid (HL6.out we KE.out)
      clear ke g0 g1 HRF
      go_wp2_with (first | (refine wpList_load_want ?_ 27 _ rfl b5 0 rfl ax _ f5.out Tryd.underlying27 rfl KJ0.out ?_; focus (simp [Region.wanted, yielded, Act.put]; done)) | (refine wpList_load_want ?_ 27 _ rfl b6 0 rfl ay _ f6.out Tryd.underlying27 rfl KJ1.out ?_; focus (simp [Region.wanted, yielded, Act.put]; done)) | (refine wpList_load_want ?_ 27 _ rfl b7 0 rfl az _ f7.out Tryd.underlying27 rfl KJ2.out ?_; focus (simp [Region.wanted, yielded, Act.put]; done)) | (refine wpList_load_want ?_ 22 _ rfl g 0 rfl ax _ g0.out KU.out rfl KI0.out ?_; focus (simp [Region.wanted, yielded, Act.put]; done)) | (refine wpList_load_want ?_ 22 _ rfl g 32 rfl ay _ g1.out KU.out rfl KI1.out ?_; focus (simp [Region.wanted, yielded, Act.put]; done)))
      refine (H10.out _).mono ?_
      rintro e wf ⟨rfl, kf⟩
      have KF := Lib.hid (KE.out.then kf)
      clear f5 f6
      have f5 := Lib.hid (HL5.out wf KF.out); have f6 := Lib.hid (HL6.out wf KF.out)
      clear kf H10
      go_wp2_with (first | (refine wpList_load_want ?_ 27 _ rfl b5 0 rfl ax _ f5.out Tryd.underlying27 rfl KJ0.out ?_; focus (simp [Region.wanted, yielded, Act.put]; done)) | (refine wpList_load_want ?_ 27 _ rfl b6 0 rfl ay _ f6.out Tryd.underlying27 rfl KJ1.out ?_; focus (simp [Region.wanted, yielded, Act.put]; done)) | (refine wpList_load_want ?_ 27 _ rfl b7 0 rfl az _ f7.out Tryd.underlying27 rfl KJ2.out ?_; focus (simp [Region.wanted, yielded, Act.put]; done)) | (refine wpList_load_want ?_ 22 _ rfl g 0 rfl ax _ g0.out KU.out rfl KI0.out ?_; focus (simp [Region.wanted, yielded, Act.put]; done)) | (refine wpList_load_want ?_ 22 _ rfl g 32 rfl ay _ g1.out KU.out rfl KI1.out ?_; focus (simp [Region.wanted, yielded, Act.put]; done)))
      refine (H00.out _).mono ?_
      rintro e wg ⟨rfl, kg⟩
      have KG := Lib.hid (KF.out.then kg)
      clear f5 f6
      have f5 := Lib.hid (HL5.out wg KG.out); have f6 := Lib.hid (HL6.out wg KG.out); have f7 := Lib.hid (HL7.out wg KG.out)
      clear kg H00
      by_cases h12 : 0 < c12
      · go_wp2_with (first | (refine wpList_load_want ?_ 27 _ rfl b5 0 rfl ax _ f5.out Tryd.underlying27 rfl KJ0.out ?_; focus (simp [Region.wanted, yielded, Act.put]; done)) | (refine wpList_load_want ?_ 27 _ rfl b6 0 rfl ay _ f6.out Tryd.underlying27 rfl KJ1.out ?_; focus (simp [Region.wanted, yielded, Act.put]; done)) | (refine wpList_load_want ?_ 27 _ rfl b7 0 rfl az _ f7.out Tryd.underlying27 rfl KJ2.out ?_; focus (simp [Region.wanted, yielded, Act.put]; done)) | (refine wpList_load_want ?_ 22 _ rfl g 0 rfl ax _ g0.out KU.out rfl KI0.out ?_; focus (simp [Region.wanted, yielded, Act.put]; done)) | (refine wpList_load_want ?_ 22 _ rfl g 32 rfl ay _ g1.out KU.out rfl KI1.out ?_; focus (simp [Region.wanted, yielded, Act.put]; done)))
        refine (H12.out _).mono ?_
        rintro e wh ⟨rfl, kh⟩
        have KH := Lib.hid (KX.out.then (KG.out.then kh))
        clear kh f5 f6 f7
        go_wp2_with (first | (refine wpList_load_want ?_ 27 _ rfl b5 0 rfl ax _ f5.out Tryd.underlying27 rfl KJ0.out ?_; focus (simp [Region.wanted, yielded, Act.put]; done)) | (refine wpList_load_want ?_ 27 _ rfl b6 0 rfl ay _ f6.out Tryd.underlying27 rfl KJ1.out ?_; focus (simp [Region.wanted, yielded, Act.put]; done)) | (refine wpList_load_want ?_ 27 _ rfl b7 0 rfl az _ f7.out Tryd.underlying27 rfl KJ2.out ?_; focus (simp [Region.wanted, yielded, Act.put]; done)) | (refine wpList_load_want ?_ 22 _ rfl g 0 rfl ax _ g0.out KU.out rfl KI0.out ?_; focus (simp [Region.wanted, yielded, Act.put]; done)) | (refine wpList_load_want ?_ 22 _ rfl g 32 rfl ay _ g1.out KU.out rfl KI1.out ?_; focus (simp [Region.wanted, yielded, Act.put]; done)))
        go_ret
        exact ⟨rfl, KH.out⟩
      · have h12' : c12 ≤ 0 := by omega
        have h02 : c02 ≤ 0 := HTR.out (by omega) h12'
        go_wp2_with (first | (refine wpList_load_want ?_ 27 _ rfl b5 0 rfl ax _ f5.out Tryd.underlying27 rfl KJ0.out ?_; focus (simp [Region.wanted, yielded, Act.put]; done)) | (refine wpList_load_want ?_ 27 _ rfl b6 0 rfl ay _ f6.out Tryd.underlying27 rfl KJ1.out ?_; focus (simp [Region.wanted, yielded, Act.put]; done)) | (refine wpList_load_want ?_ 27 _ rfl b7 0 rfl az _ f7.out Tryd.underlying27 rfl KJ2.out ?_; focus (simp [Region.wanted, yielded, Act.put]; done)) | (refine wpList_load_want ?_ 22 _ rfl g 0 rfl ax _ g0.out KU.out rfl KI0.out ?_; focus (simp [Region.wanted, yielded, Act.put]; done)) | (refine wpList_load_want ?_ 22 _ rfl g 32 rfl ay _ g1.out KU.out rfl KI1.out ?_; focus (simp [Region.wanted, yielded, Act.put]; done)))
        refine (H12.out _).mono ?_
        rintro e wh ⟨rfl, kh⟩
        have KH := Lib.hid (KG.out.then kh)
        clear kh f5 f6 f7
        have f5 := Lib.hid (HL5.out wh KH.out); have f7 := Lib.hid (HL7.out wh KH.out)
        go_wp2_with (first | (refine wpList_load_want ?_ 27 _ rfl b5 0 rfl ax _ f5.out Tryd.underlying27 rfl KJ0.out ?_; focus (simp [Region.wanted, yielded, Act.put, h12, h12']; done)) | (refine wpList_load_want ?_ 27 _ rfl b6 0 rfl ay _ f6.out Tryd.underlying27 rfl KJ1.out ?_; focus (simp [Region.wanted, yielded, Act.put, h12, h12']; done)) | (refine wpList_load_want ?_ 27 _ rfl b7 0 rfl az _ f7.out Tryd.underlying27 rfl KJ2.out ?_; focus (simp [Region.wanted, yielded, Act.put, h12, h12']; done)) | (refine wpList_load_want ?_ 22 _ rfl g 0 rfl ax _ g0.out KU.out rfl KI0.out ?_; focus (simp [Region.wanted, yielded, Act.put, h12, h12']; done)) | (refine wpList_load_want ?_ 22 _ rfl g 32 rfl ay _ g1.out KU.out rfl KI1.out ?_; focus (simp [Region.wanted, yielded, Act.put, h12, h12']; done)))
        refine (H02.out _).mono ?_
        rintro e wi ⟨rfl, ki⟩
        have KI := Lib.hid (KX.out.then (KH.out.then ki))
        clear ki f5 f7
        go_wp2_with (first | (refine wpList_load_want ?_ 27 _ rfl b5 0 rfl ax _ f5.out Tryd.underlying27 rfl KJ0.out ?_; focus (simp [Region.wanted, yielded, Act.put]; done)) | (refine wpList_load_want ?_ 27 _ rfl b6 0 rfl ay _ f6.out Tryd.underlying27 rfl KJ1.out ?_; focus (simp [Region.wanted, yielded, Act.put]; done)) | (refine wpList_load_want ?_ 27 _ rfl b7 0 rfl az _ f7.out Tryd.underlying27 rfl KJ2.out ?_; focus (simp [Region.wanted, yielded, Act.put]; done)) | (refine wpList_load_want ?_ 22 _ rfl g 0 rfl ax _ g0.out KU.out rfl KI0.out ?_; focus (simp [Region.wanted, yielded, Act.put]; done)) | (refine wpList_load_want ?_ 22 _ rfl g 32 rfl ay _ g1.out KU.out rfl KI1.out ?_; focus (simp [Region.wanted, yielded, Act.put]; done)))
        go_ret
        exact ⟨by simp [h02], KI.out⟩
    · have f5 := Lib.hid (HL5.out wc (Kept.refl _ _)); have f6 := Lib.hid (HL6.out wc (Kept.refl _ _))
      have eq := HEQ.out
      simp at eq
      clear HEQ
      go_wp2_with (first | (refine wpList_load_want ?_ 27 _ rfl b5 0 rfl ax _ f5.out Tryd.underlying27 rfl KJ0.out ?_; focus (simp [Region.wanted, yielded, Act.put]; done)) | (refine wpList_load_want ?_ 27 _ rfl b6 0 rfl ay _ f6.out Tryd.underlying27 rfl KJ1.out ?_; focus (simp [Region.wanted, yielded, Act.put]; done)) | (refine wpList_load_want ?_ 27 _ rfl b7 0 rfl az _ f7.out Tryd.underlying27 rfl KJ2.out ?_; focus (simp [Region.wanted, yielded, Act.put]; done)) | (refine wpList_load_want ?_ 22 _ rfl g 0 rfl ax _ g0.out KU.out rfl KI0.out ?_; focus (simp [Region.wanted, yielded, Act.put]; done)) | (refine wpList_load_want ?_ 22 _ rfl g 32 rfl ay _ g1.out KU.out rfl KI1.out ?_; focus (simp [Region.wanted, yielded, Act.put]; done)))
      refine (H01.out _).mono ?_
      rintro e wd ⟨rfl, kd⟩
      have KD := Lib.hid kd
      have g0 := Lib.hid (HG0.out wd kd); have g1 := Lib.hid (HG1.out wd kd)
      clear kd f5 f6 H01
      go_wp2_with (first | (refine wpList_load_want ?_ 27 _ rfl b5 0 rfl ax _ f5.out Tryd.underlying27 rfl KJ0.out ?_; focus (simp [Region.wanted, yielded, Act.put]; done)) | (refine wpList_load_want ?_ 27 _ rfl b6 0 rfl ay _ f6.out Tryd.underlying27 rfl KJ1.out ?_; focus (simp [Region.wanted, yielded, Act.put]; done)) | (refine wpList_load_want ?_ 27 _ rfl b7 0 rfl az _ f7.out Tryd.underlying27 rfl KJ2.out ?_; focus (simp [Region.wanted, yielded, Act.put]; done)) | (refine wpList_load_want ?_ 22 _ rfl g 0 rfl ax _ g0.out KU.out rfl KI0.out ?_; focus (simp [Region.wanted, yielded, Act.put]; done)) | (refine wpList_load_want ?_ 22 _ rfl g 32 rfl ay _ g1.out KU.out rfl KI1.out ?_; focus (simp [Region.wanted, yielded, Act.put]; done)))
      refine (HRF.out _).mono ?_
      rintro e we ⟨rfl, ke⟩
      have KE := Lib.hid (KD.out.then ke)
      have f5 := Lib.hid (HL5.out we KE.out); have f6 := Lib.hid (HL6.out we KE.out)
      clear ke g0 g1 HRF
      go_wp2_with (first | (refine wpList_load_want ?_ 27 _ rfl b5 0 rfl ax _ f5.out Tryd.underlying27 rfl KJ0.out ?_; focus (simp [Region.wanted, yielded, Act.put]; done)) | (refine wpList_load_want ?_ 27 _ rfl b6 0 rfl ay _ f6.out Tryd.underlying27 rfl KJ1.out ?_; focus (simp [Region.wanted, yielded, Act.put]; done)) | (refine wpList_load_want ?_ 27 _ rfl b7 0 rfl az _ f7.out Tryd.underlying27 rfl KJ2.out ?_; focus (simp [Region.wanted, yielded, Act.put]; done)) | (refine wpList_load_want ?_ 22 _ rfl g 0 rfl ax _ g0.out KU.out rfl KI0.out ?_; focus (simp [Region.wanted, yielded, Act.put]; done)) | (refine wpList_load_want ?_ 22 _ rfl g 32 rfl ay _ g1.out KU.out rfl KI1.out ?_; focus (simp [Region.wanted, yielded, Act.put]; done)))
      refine (H10.out _).mono ?_
      rintro e wf ⟨rfl, kf⟩
      have KF := Lib.hid (KE.out.then kf)
      clear f5 f6
      have f5 := Lib.hid (HL5.out wf KF.out); have f6 := Lib.hid (HL6.out wf KF.out)
      clear kf H10
      go_wp2_with (first | (refine wpList_load_want ?_ 27 _ rfl b5 0 rfl ax _ f5.out Tryd.underlying27 rfl KJ0.out ?_; focus (simp [Region.wanted, yielded, Act.put]; done)) | (refine wpList_load_want ?_ 27 _ rfl b6 0 rfl ay _ f6.out Tryd.underlying27 rfl KJ1.out ?_; focus (simp [Region.wanted, yielded, Act.put]; done)) | (refine wpList_load_want ?_ 27 _ rfl b7 0 rfl az _ f7.out Tryd.underlying27 rfl KJ2.out ?_; focus (simp [Region.wanted, yielded, Act.put]; done)) | (refine wpList_load_want ?_ 22 _ rfl g 0 rfl ax _ g0.out KU.out rfl KI0.out ?_; focus (simp [Region.wanted, yielded, Act.put]; done)) | (refine wpList_load_want ?_ 22 _ rfl g 32 rfl ay _ g1.out KU.out rfl KI1.out ?_; focus (simp [Region.wanted, yielded, Act.put]; done)))
      refine (H00.out _).mono ?_
      rintro e wg ⟨rfl, kg⟩
      have KG := Lib.hid (KF.out.then kg)
      clear f5 f6
      have f5 := Lib.hid (HL5.out wg KG.out); have f6 := Lib.hid (HL6.out wg KG.out); have f7 := Lib.hid (HL7.out wg KG.out)
      clear kg H00
      by_cases h12 : 0 < c12
      · go_wp2_with (first | (refine wpList_load_want ?_ 27 _ rfl b5 0 rfl ax _ f5.out Tryd.underlying27 rfl KJ0.out ?_; focus (simp [Region.wanted, yielded, Act.put]; done)) | (refine wpList_load_want ?_ 27 _ rfl b6 0 rfl ay _ f6.out Tryd.underlying27 rfl KJ1.out ?_; focus (simp [Region.wanted, yielded, Act.put]; done)) | (refine wpList_load_want ?_ 27 _ rfl b7 0 rfl az _ f7.out Tryd.underlying27 rfl KJ2.out ?_; focus (simp [Region.wanted, yielded, Act.put]; done)) | (refine wpList_load_want ?_ 22 _ rfl g 0 rfl ax _ g0.out KU.out rfl KI0.out ?_; focus (simp [Region.wanted, yielded, Act.put]; done)) | (refine wpList_load_want ?_ 22 _ rfl g 32 rfl ay _ g1.out KU.out rfl KI1.out ?_; focus (simp [Region.wanted, yielded, Act.put]; done)))
        refine (H12.out _).mono ?_
        rintro e wh ⟨rfl, kh⟩
        have KH := Lib.hid (KX.out.then (KG.out.then kh))
        clear kh f5 f6 f7
        go_wp2_with (first | (refine wpList_load_want ?_ 27 _ rfl b5 0 rfl ax _ f5.out Tryd.underlying27 rfl KJ0.out ?_; focus (simp [Region.wanted, yielded, Act.put]; done)) | (refine wpList_load_want ?_ 27 _ rfl b6 0 rfl ay _ f6.out Tryd.underlying27 rfl KJ1.out ?_; focus (simp [Region.wanted, yielded, Act.put]; done)) | (refine wpList_load_want ?_ 27 _ rfl b7 0 rfl az _ f7.out Tryd.underlying27 rfl KJ2.out ?_; focus (simp [Region.wanted, yielded, Act.put]; done)) | (refine wpList_load_want ?_ 22 _ rfl g 0 rfl ax _ g0.out KU.out rfl KI0.out ?_; focus (simp [Region.wanted, yielded, Act.put]; done)) | (refine wpList_load_want ?_ 22 _ rfl g 32 rfl ay _ g1.out KU.out rfl KI1.out ?_; focus (simp [Region.wanted, yielded, Act.put]; done)))
        go_ret
        exact ⟨rfl, KH.out⟩
      · have h12' : c12 ≤ 0 := by omega
        have h02 : c02 ≤ 0 := HTR.out (by omega) h12'
        go_wp2_with (first | (refine wpList_load_want ?_ 27 _ rfl b5 0 rfl ax _ f5.out Tryd.underlying27 rfl KJ0.out ?_; focus (simp [Region.wanted, yielded, Act.put]; done)) | (refine wpList_load_want ?_ 27 _ rfl b6 0 rfl ay _ f6.out Tryd.underlying27 rfl KJ1.out ?_; focus (simp [Region.wanted, yielded, Act.put]; done)) | (refine wpList_load_want ?_ 27 _ rfl b7 0 rfl az _ f7.out Tryd.underlying27 rfl KJ2.out ?_; focus (simp [Region.wanted, yielded, Act.put]; done)) | (refine wpList_load_want ?_ 22 _ rfl g 0 rfl ax _ g0.out KU.out rfl KI0.out ?_; focus (simp [Region.wanted, yielded, Act.put]; done)) | (refine wpList_load_want ?_ 22 _ rfl g 32 rfl ay _ g1.out KU.out rfl KI1.out ?_; focus (simp [Region.wanted, yielded, Act.put]; done)))
        refine (H12.out _).mono ?_
        rintro e wh ⟨rfl, kh⟩
        have KH := Lib.hid (KG.out.then kh)
        clear kh f5 f6 f7
        have f5 := Lib.hid (HL5.out wh KH.out); have f7 := Lib.hid (HL7.out wh KH.out)
        go_wp2_with (first | (refine wpList_load_want ?_ 27 _ rfl b5 0 rfl ax _ f5.out Tryd.underlying27 rfl KJ0.out ?_; focus (simp [Region.wanted, yielded, Act.put, h12, h12']; done)) | (refine wpList_load_want ?_ 27 _ rfl b6 0 rfl ay _ f6.out Tryd.underlying27 rfl KJ1.out ?_; focus (simp [Region.wanted, yielded, Act.put, h12, h12']; done)) | (refine wpList_load_want ?_ 27 _ rfl b7 0 rfl az _ f7.out Tryd.underlying27 rfl KJ2.out ?_; focus (simp [Region.wanted, yielded, Act.put, h12, h12']; done)) | (refine wpList_load_want ?_ 22 _ rfl g 0 rfl ax _ g0.out KU.out rfl KI0.out ?_; focus (simp [Region.wanted, yielded, Act.put, h12, h12']; done)) | (refine wpList_load_want ?_ 22 _ rfl g 32 rfl ay _ g1.out KU.out rfl KI1.out ?_; focus (simp [Region.wanted, yielded, Act.put, h12, h12']; done)))
        refine (H02.out _).mono ?_
        rintro e wi ⟨rfl, ki⟩
        have KI := Lib.hid (KX.out.then (KH.out.then ki))
        clear ki f5 f7
        go_wp2_with (first | (refine wpList_load_want ?_ 27 _ rfl b5 0 rfl ax _ f5.out Tryd.underlying27 rfl KJ0.out ?_; focus (simp [Region.wanted, yielded, Act.put]; done)) | (refine wpList_load_want ?_ 27 _ rfl b6 0 rfl ay _ f6.out Tryd.underlying27 rfl KJ1.out ?_; focus (simp [Region.wanted, yielded, Act.put]; done)) | (refine wpList_load_want ?_ 27 _ rfl b7 0 rfl az _ f7.out Tryd.underlying27 rfl KJ2.out ?_; focus (simp [Region.wanted, yielded, Act.put]; done)) | (refine wpList_load_want ?_ 22 _ rfl g 0 rfl ax _ g0.out KU.out rfl KI0.out ?_; focus (simp [Region.wanted, yielded, Act.put]; done)) | (refine wpList_load_want ?_ 22 _ rfl g 32 rfl ay _ g1.out KU.out rfl KI1.out ?_; focus (simp [Region.wanted, yielded, Act.put]; done)))
        go_ret
        exact ⟨by simp [h02], KI.out⟩
end Go.Proofs.YtdmnanocmpkhjaaDoor
