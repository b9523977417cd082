/-
  bits.Set.Text: the members in decimal between braces.
-/
import Derived.Test.YteaagllpkcpedaaDoorBTxL
import Derived.Test.YteaagllpkcpedaaDoorBList
import Derived.Laws.IdiomStrings
namespace Go.Proofs.YteaagllpkcpedaaDoor
open Go.RowKit Go.Shelf
attribute [local go_sem] Oper.semAt_some

theorem info_u8t : (Tryd.prog.info? 5).map (fun i => (i.zero, i.size, i.bytes)) = some (some (.int .u8 0), 1, 1) := by kernel_rfl

/-- What the text's loop holds: the row, and the variable that holds it. -/
structure TxAt (W : World) (b : Nat) (v : Value) (xs : List UInt8) : Prop where
  box : Boxed W (b + 2) 49 v
  row : W.ownsRow (b + 1) 5 1 v xs.length (Lib.byteCells xs)
  at_ : ∀ k, v.ownBlock = some k → k = b + 1 ∨ b + 4 ≤ k
def TxS (b : Nat) (k : Nat) : Prop := k = b + 1 ∨ k = b + 2

theorem OthersKept.box {e t : TypeId} {W W' : World} (h : Lib.OthersKept e none W W') {k : Nat} {cs : Array Value} {fz : Nat × Nat} (hk : W.heap[k]? = some (.cells cs t fz)) (ht : t ≠ e) : W'.heap[k]? = some (.cells cs t fz) :=
  h k _ hk (by simp) (fun c f e2 => by cases e2; exact ht rfl)

theorem tx_grow {W W' : World} {b : Nat} {v v' : Value} {xs ys : List UInt8} (h : TxAt W b v xs) {c3 : Array Value} (h3 : W.heap[b + 3]? = some (.cells c3 28 (0, 0)))
    (hown : W'.ownsRow (b + 1) 5 1 v' ys.length (Lib.byteCells ys)) (hb : Below (b + 1) W W') (ho : Lib.OthersKept 5 none W W') (B : Nat) :
    TxAt (W'.setCell ⟨b + 2, 0, none⟩ v') b v' ys ∧ KeepsFrom B W (W'.setCell ⟨b + 2, 0, none⟩ v') ∧ KeepM (TxS b) (b + 4) W (W'.setCell ⟨b + 2, 0, none⟩ v') := by
  have hbox : Boxed W' (b + 2) 49 v := OthersKept.box ho h.box (by decide)
  have h3' := OthersKept.box ho h3 (by decide)
  have hat : ∀ k, v'.ownBlock = some k → k = b + 1 ∨ b + 4 ≤ k := fun k hk => by
    obtain ⟨_, hh⟩ := hown
    rcases hh with ⟨rfl, _⟩ | ⟨g, cap, cur, rfl, h1, h2, _⟩
    · cases hk
    · have : g = k := by simpa [Value.ownBlock] using hk
      subst this
      by_cases e2 : g = b + 2
      · subst e2; rw [show W'.heap[b + 2]? = _ from hbox] at h2; cases h2
      · by_cases e3 : g = b + 3
        · subst e3; rw [h3'] at h2; cases h2
        · omega
  have hkc := Kept.setCell (fun k => k = b + 2) W' ⟨b + 2, 0, none⟩ v' rfl
  refine ⟨⟨hbox.set v', hkc.owns hown (fun k hk e => by have := hat k hk; omega), hat⟩, ?_, ?_⟩
  · refine KeepsFrom.trans ⟨hb.size, fun k o _ hk hc => ho k o hk (by simp) (fun c f e => by subst e; cases hc)⟩ (KeepsOthers.from (KeepsOthers.setCell W' _ v') B)
  · refine KeepM.trans (b := W') ⟨hb.os, hb.tape, hb.output, hb.size, fun k h1 h2 hn => ?_⟩ (KeepM.grown (grownBy_setCell' W' (b + 2) v') (fun r e => by cases e; exact Or.inr (Or.inr rfl)))
    by_cases e3 : k = b + 3
    · subst e3; exact h3'.trans h3.symm
    · exact hb.block k (by
        have h5 : ¬ (k = b + 1 ∨ k = b + 2) := hn
        omega)

theorem others_grown {W W1 : World} {tmp : Obj} {row : Option Nat} {e : TypeId} (hg : (W.alloc tmp).grownBy W1 row) (hrow : ∀ r, row = some r → ∃ c fz, W.heap[r]? = some (.cells c e fz)) : Lib.OthersKept e none W W1 := by
  intro k o hk _ ho
  have hlt : k < W.heap.size := (Array.getElem?_eq_some_iff.1 hk).1
  refine (hg.block k (by simp; omega) (fun e2 => ?_)).trans ((Below.heap_alloc W tmp k hlt).trans hk)
  obtain ⟨c, fz, h⟩ := hrow k e2.symm
  rw [hk] at h
  exact ho _ _ (Option.some.inj h)
theorem KeepM.below {S : Nat → Prop} {M B : Nat} {a b : World} (h : KeepM S M a b) (hM : B ≤ M) (hB : B ≤ a.heap.size) (hS : ∀ k, k < B → ¬ S k) : Below B a b :=
  ⟨h.os, h.tape, h.output, h.size, fun k hk => h.block k (by omega) (by omega) (hS k hk)⟩
theorem row_cells {W : World} {base : Nat} {e : TypeId} {size : Nat} {v : Value} {k : Nat} {xs : List Value} (h : W.ownsRow base e size v k xs) : ∀ r, v.ownBlock = some r → base ≤ r ∧ ∃ c fz, W.heap[r]? = some (.cells c e fz) := by
  intro r hr
  obtain ⟨_, hh⟩ := h
  rcases hh with ⟨rfl, _⟩ | ⟨g, cap, cur, rfl, h1, h2, _⟩
  · cases hr
  · have : g = r := by simpa [Value.ownBlock] using hr
    subst this
    exact ⟨h1, _, _, h2⟩
theorem row_slice {W : World} {base : Nat} {e : TypeId} {size : Nat} {v : Value} {k : Nat} {xs : List Value} (h : W.ownsRow base e size v k xs) (hk : 0 < k) : ∃ g cap, v = .slice (some ⟨g, 0, none⟩) k cap := by
  obtain ⟨_, hh⟩ := h
  rcases hh with ⟨_, h0⟩ | ⟨g, cap, cur, rfl, _⟩
  · omega
  · exact ⟨g, cap, rfl⟩
theorem tab_on {P : Program} {B B' : Nat} {w W : World} {name : String} {k : IntKind} {zs : List Int} (h : Lib.TabBelow P B w name k zs) (hb : Below B w W) (hB : B ≤ B') : Lib.TabBelow P B' W name k zs :=
  fun w' h' => h w' (hb.trans (h'.mono hB))

theorem conv_row {W1 : World} {base g' n cap' : Nat} {l : List UInt8} (h : W1.ownsRow base 5 1 (.slice (some ⟨g', 0, none⟩) n cap') n (Lib.byteCells l)) (hn : l.length = n) :
    (convert 49 9 (.slice (some ⟨g', 0, none⟩) n cap')).run Tryd.prog W1 = .ok (.string ⟨l.toArray⟩) W1 := by
  subst hn
  refine run_convert_bytes_back (P := Tryd.prog) W1 49 9 5 ⟨g', 0, none⟩ cap' l Tryd.underlying49 Tryd.underlying5 Tryd.underlying9 (fun j hj => ?_)
  have hadd : (⟨g', 0, none⟩ : Addr).add j = ⟨g', j, none⟩ := by unfold Addr.add; split <;> simp_all
  rw [hadd, h.cellAt j (by omega)]
  simp [Lib.byteCells, hj]

set_option maxRecDepth 100000 in
set_option maxHeartbeats 3200000 in
theorem text_at (w : World) (lo n vc : Nat) (va : Option Addr) (M : Nat) (hs : List Nat) (hlo : lo = M % 2 ^ 64) (hn : hs.length = n) (hw : Words w (.slice va n vc) hs) (hc : Canon hs (M / 2 ^ 64)) (hl : n ≤ 63) (hT : Tz w)
    (hP : Lib.TabBelow Tryd.prog w.heap.size w "internal/strconv.uint64pow10" .u64 Lib.pow10Tab) :
    Calls Tryd.prog 27 #[.agg #[.int .u64 lo, .slice va n vc]] w fun e w' => e = .returned (.string ⟨(textS M).toArray⟩) ∧ Kept (fun _ => False) w w' := by
  have HLO := Lib.hid hlo; have HN := Lib.hid hn
  clear hlo hn
  have hwlt := hw.lt; have hglt := hT.lt
  refine (callsIn_wide (n := 3)).1 ?_
  obtain ⟨i0, hi, hz0, hz1, hz2⟩ := info_parts info_u8t
  obtain ⟨w3, hw3⟩ : ∃ w3, w3 = ((w.alloc (.cells #[.int .u64 lo, .slice va n vc] 28)).alloc (.cells #[.int .u8 123] 5)).alloc (.cells #[.slice (some ⟨w.heap.size + 1, 0, none⟩) 1 1] 49) := ⟨_, rfl⟩
  have hk3 : Kept (fun _ => False) w w3 := by rw [hw3]; exact ((Kept.alloc _ _ _).then (Kept.alloc _ _ _)).then (Kept.alloc _ _ _)
  have hs3 : w3.heap.size = w.heap.size + 3 := by rw [hw3]; simp
  have hb3 : Boxed w3 (w.heap.size + 2) 49 (.slice (some ⟨w.heap.size + 1, 0, none⟩) 1 1) := by rw [hw3]; have := Boxed.new ((w.alloc (.cells #[.int .u64 lo, .slice va n vc] 28)).alloc (.cells #[.int .u8 123] 5)) 49 (.slice (some ⟨w.heap.size + 1, 0, none⟩) 1 1); simpa using this
  have hr3 : w3.ownsRow (w.heap.size + 1) 5 1 (.slice (some ⟨w.heap.size + 1, 0, none⟩) 1 1) 1 [.int .u8 123] := by
    rw [hw3]
    refine (Kept.alloc (fun _ => False) _ _).owns ?_ (fun _ _ h => h)
    have := owns_lit (w.alloc (.cells #[.int .u64 lo, .slice va n vc] 28)) (w.heap.size + 1) #[.int .u8 123] [123] 1 rfl rfl (by simp) (by decide)
    rw [show bv [123] = [Value.int .u8 123] from rfl] at this
    simpa using this
  obtain ⟨w1, hw1⟩ : ∃ w1, w1 = w3.alloc (.cells #[.int .u64 lo, .slice va n vc] 28) := ⟨_, rfl⟩
  have hk1 : Kept (fun _ => False) w3 w1 := by rw [hw1]; exact Kept.alloc _ _ _
  have hs1 : w1.heap.size = w.heap.size + 4 := by rw [hw1]; simp [hs3]
  have hob : w1.heap[w.heap.size + 3]? = some (.cells #[.int .u64 lo, .slice va n vc] 28 (0, 0)) := by rw [hw1, ← hs3]; exact heap_alloc_new w3 _
  have hAll : AllAt w1 (w.heap.size + 3) M (.slice va hs.length vc) hs := by
    rw [HN.out, hw1, ← hs3, HLO.out]
    exact allAt_new (hw.kept hk3 (fun _ _ h => h)) hc (hT.kept hk3 (fun h => h))
  have hS := all_stopsM (TxS w.heap.size) (w.heap.size + 4) (w.heap.size + 3) M va vc hs w1 hAll (by rw [HN.out]; exact hl) (by omega) (fun h => by unfold TxS at h; omega)
    (fun k hk => by rw [HN.out] at hk; have := hwlt k hk; exact ⟨by omega, fun h => by unfold TxS at h; omega⟩) (by omega) (fun h => by unfold TxS at h; omega)
  rw [memM_all hc (by rw [HN.out]; exact hl)] at hS
  have h01 : TxAt w1 w.heap.size (.slice (some ⟨w.heap.size + 1, 0, none⟩) 1 1) (txt []) := by
    refine ⟨?_, hk1.owns hr3 (fun _ _ h => h), fun k hk => Or.inl ?_⟩
    · show w1.heap[_]? = _
      rw [hk1.block _ (by omega) (fun h => h)]; exact hb3
    · simpa [Value.ownBlock] using hk.symm
  have HW1 := Lib.hid hw1; have HW3 := Lib.hid hw3; have HS := Lib.hid hS; have H01 := Lib.hid h01; have HK := Lib.hid (hk3.then hk1)
  have HS1 := Lib.hid hs1; have HOB := Lib.hid hob; have HML := Lib.hid (memM_le M 4096)
  clear hw1 hw3 hS h01 hk1 hk3 hs3 hb3 hr3 hs1 hob hAll hc hw hwlt
  refine callsIn_of_wp_marks Tryd.func27 rfl trivial ?_ rfl
  simp only [Tryd.ntmps27, List.size_toArray, List.length_cons, List.length_nil, Nat.reduceAdd, Nat.reduceSub, Array.replicate_succ, Array.replicate_zero, List.push_toArray, List.append_toArray, List.nil_append, List.cons_append]
  gi_wp2_with (refine ⟨trivial, ?_⟩; gi_at_call 53; refine (callsIn_wide.2 (all_any _ lo va n vc)).mono ?_; rintro e w1' ⟨rfl, hw1'⟩)
  have hq : w1' = w1 := by rw [hw1', HW1.out, HW3.out]
  rw [← hw1']
  clear hw1'
  subst hq
  have hs1 := HS1.out
  obtain ⟨p3, hp3⟩ : ∃ p3, p3 = w.heap.size + 1 + 1 + 1 := ⟨_, rfl⟩
  rw [← hp3]
  have hS := HS.out
  rw [show w.heap.size + 3 = p3 from hp3.symm] at hS
  clear hp3
  obtain ⟨p2, hp2⟩ : ∃ p2, p2 = w.heap.size + 1 + 1 := ⟨_, rfl⟩
  rw [← hp2]
  have HP2 := Lib.hid hp2
  clear hp2
  refine wpIn_rangeFunc_ownG rfl (by omega) (gf := 72) (lb := #[.pointer (some ⟨p3, 0, none⟩)]) rfl trivial (enters_of Tryd.func72 (by kernel_rfl) rfl)
    hS KeepM.trans (fun W l o o' hl h h1 h2 => KeepM.putB W l o o' (by rw [hs1] at hl; exact hl) h h1 h2) (Below.refl _ _) (fun _ => rfl)
    (fun pre W => (∃ v, TxAt W w.heap.size v (txt (pre.map (·.1)))) ∧ KeepM (TxS w.heap.size) (w.heap.size + 4) w1' W)
    (fun _ _ _ => False) ?_
    (fun _ _ _ _ _ hs _ _ => hs)
    ⟨⟨_, H01.out⟩, KeepM.refl _ _ _⟩
    (fun x => { tmps := #[.agg #[.int .u64 lo, .slice va n vc], .pointer (some ⟨w.heap.size, 0, none⟩), .string ⟨#[]⟩, .pointer (some ⟨p2, 0, none⟩), .int .i64 x.1, .slice (some ⟨w.heap.size + 1, 0, none⟩) 1 1, .agg #[.int .u64 lo, .slice va n vc], .func (.func 72) #[] #[.pointer (some ⟨p3, 0, none⟩)], .int .i64 x.1, undef, undef, undef, undef, undef, undef, undef, undef, undef, undef, undef, undef, undef], defers := [] }) ?assign ?body ?done ?stop
  · refine OwnFrom.and (fun s W W' row hs hg hr => ?_) (ownFrom_keepM (by omega))
    obtain ⟨v, h⟩ := hs
    have := (holdsRow_own (w.heap.size + 1) (w.heap.size + 2) 49 5 1 (fun s : List Mem => (txt (s.map (·.1))).length) (fun s : List Mem => Lib.byteCells (txt (s.map (·.1)))) (fun _ v => ∀ k, v.ownBlock = some k → k = w.heap.size + 1 ∨ w.heap.size + 4 ≤ k)).from _ s W W' row ⟨v, h.box, h.row, h.at_⟩ hg hr
    exact this.imp fun v h => ⟨h.1, h.2.1, h.2.2⟩
  case assign =>
    intro l x W K hK
    gi_wp2
    exact hK
  case body =>
    rintro l pre x W ⟨⟨v, ht⟩, hB⟩ hlt
    obtain ⟨xi, hx0, hx1⟩ := x
    have hml := HML.out
    have hBs := hB.size
    have h3 : W.heap[w.heap.size + 3]? = some (.cells #[.int .u64 lo, .slice va n vc] 28 (0, 0)) := (hB.block _ (by omega) (by omega) (fun h => by unfold TxS at h; omega)).trans HOB.out
    have hle := txt_le (pre.map (·.1)) (fun y hy => by
      obtain ⟨z, _, rfl⟩ := List.mem_map.1 hy
      have := z.2
      omega)
    have hsn := txt_snoc (pre.map (·.1)) xi
    have hge := txt_len (pre.map (·.1))
    rw [List.length_map] at hle
    have hmp : (pre ++ [(⟨xi, hx0, hx1⟩ : Mem)]).map (·.1) = pre.map (·.1) ++ [xi] := by rw [List.map_append]; rfl
    have HTB : Hid (∀ W2, Below (w.heap.size + 1) W W2 → Lib.TabBelow Tryd.prog (w.heap.size + 1) W2 "internal/strconv.uint64pow10" .u64 Lib.pow10Tab) := fun W2 h2 =>
      tab_on hP ((HK.out.below (B := w.heap.size) (Nat.le_refl _) (fun _ h => h.elim)).trans ((hB.below (B := w.heap.size) (by omega) (by omega) (fun k hk h => by unfold TxS at h; omega)).trans (h2.mono (by omega)))) (by omega)
    generalize txt (pre.map (·.1)) = xs at *
    have hc : W.cell? ⟨p2, 0, none⟩ = some v := by rw [HP2.out]; exact ht.box.cell
    have hf : W.frozen? ⟨p2, 0, none⟩ = false := by rw [HP2.out]; exact ht.box.frozen
    have HFIN : Hid (∀ (ys : List UInt8) W2 v2, ys ++ Lib.itoa xi = txt ((pre ++ [(⟨xi, hx0, hx1⟩ : Mem)]).map (·.1)) → TxAt W2 w.heap.size v2 ys → KeepsFrom w1'.heap.size W W2 → KeepM (TxS w.heap.size) (w.heap.size + 4) W W2 →
        ∀ W3 v3, W3.ownsRow (w.heap.size + 1) 5 1 v3 (ys.length + (Lib.itoa xi).length) (Lib.byteCells ys ++ Lib.byteCells (Lib.itoa xi)) → Below (w.heap.size + 1) W2 W3 → Lib.OthersKept 5 none W2 W3 →
        (W3.cell? ⟨p2, 0, none⟩ = some v2 ∧ W3.frozen? ⟨p2, 0, none⟩ = false) ∧ KeepsFrom w1'.heap.size W (W3.setCell ⟨p2, 0, none⟩ v3) ∧ KeepM (TxS w.heap.size) (w.heap.size + 4) W (W3.setCell ⟨p2, 0, none⟩ v3) ∧
          (∃ v, TxAt (W3.setCell ⟨p2, 0, none⟩ v3) w.heap.size v (txt ((pre ++ [(⟨xi, hx0, hx1⟩ : Mem)]).map (·.1)))) ∧ KeepM (TxS w.heap.size) (w.heap.size + 4) w1' (W3.setCell ⟨p2, 0, none⟩ v3)) := by
      intro ys W2 v2 he ht2 hk2 hm2 W3 v3 ho3 hb3 hk3
      have h32 : W2.heap[w.heap.size + 3]? = some (.cells #[.int .u64 lo, .slice va n vc] 28 (0, 0)) := (hm2.block _ (by omega) (by omega) (fun h => by unfold TxS at h; omega)).trans h3
      have hbx := OthersKept.box hk3 ht2.box (by decide)
      have e2 : Lib.byteCells ys ++ Lib.byteCells (Lib.itoa xi) = Lib.byteCells (ys ++ Lib.itoa xi) := by simp [Lib.byteCells]
      rw [e2, ← List.length_append, he] at ho3
      obtain ⟨a1, a2, a3⟩ := tx_grow (v' := v3) ht2 h32 ho3 hb3 hk3 w1'.heap.size
      rw [HP2.out]
      exact ⟨⟨Boxed.cell hbx, Boxed.frozen hbx⟩, hk2.trans a2, hm2.trans a3, ⟨_, a1⟩, (hB.trans hm2).trans a3⟩
    have HT := Lib.hid ht; have HBB := Lib.hid hB; have H3 := Lib.hid h3
    have hW0 : w.heap.size + 1 ≤ W.heap.size := by omega
    have hrc := row_cells ht.row
    obtain ⟨N, hN⟩ : ∃ N, xs.length = N + 1 := ⟨xs.length - 1, by omega⟩
    have hrow := ht.row
    rw [hN] at hrow
    obtain ⟨g, cap, rfl⟩ := ownsRow_succ hrow
    have hNb : N ≤ 100000 := by omega
    have HSN : Hid (∀ ys, ys = (if 1 < xs.length then xs ++ [32] else xs) → ys ++ Lib.itoa xi = txt ((pre ++ [(⟨xi, hx0, hx1⟩ : Mem)]).map (·.1))) := fun ys e => by rw [hmp, hsn, e]
    have HROW := Lib.hid hrow; have HRC := Lib.hid hrc
    have HNN := Lib.hid hN
    clear hsn hmp hrow hrc hle hge ht hB h3 hml hlt hN
    by_cases h1 : 1 < xs.length
    · have h1' : (1 : Int) < (N : Int) + 1 := by have := HNN.out; omega
      have H1 := Lib.hid h1; clear h1
      gi_wp2_with (first
        | (gi_at_builtin; refine wpListIn_append_own_at _ rfl _ _ 49 rfl (w.heap.size + 1) 5 i0 (.int .u8 0) 1 1 Tryd.underlying49 hi hz0 hz1 hz2 rfl (by decide) _ _ _ rfl (HROW.out.alloc _) ⟨W.heap.size, 0, none⟩ 1 1 [.int .u8 32] rfl rfl (cell_one_new _ _ _) (by simp [Value.oneCell']) (by unfold maxLen; omega) (by omega) (by simp; omega) ?_
           intro v' W1 hown' hgrow _ hloc
           obtain ⟨g', cap', rfl⟩ := ownsRow_succ hown'
           have ho1 := others_grown hgrow (fun r e => (HRC.out r e).2)
           have hb1 : Below (w.heap.size + 1) W W1 := ((Below.refl (w.heap.size + 1) W).alloc hW0 _).grown hgrow (by simp; omega) (fun k e => (HRC.out k e).1)
           have e32 : Lib.byteCells xs ++ [.int .u8 32] = Lib.byteCells (xs ++ [32]) := by simp [Lib.byteCells]
           have hown2 : W1.ownsRow (w.heap.size + 1) 5 1 (.slice (some ⟨g', 0, none⟩) (N + 1 + 1) cap') (xs ++ [32]).length (Lib.byteCells (xs ++ [32])) := by rw [← e32, List.length_append, HNN.out]; exact hown'
           have hbx1 := OthersKept.box ho1 HT.out.box (by decide)
           have hc1 : W1.cell? ⟨p2, 0, none⟩ = some (.slice (some ⟨g, 0, none⟩) (N + 1) cap) := by rw [HP2.out]; exact Boxed.cell hbx1
           have hf1 : W1.frozen? ⟨p2, 0, none⟩ = false := by rw [HP2.out]; exact Boxed.frozen hbx1
           have hgr := tx_grow HT.out H3.out hown2 hb1 ho1 w1'.heap.size
           rw [show (⟨w.heap.size + 2, 0, none⟩ : Addr) = ⟨p2, 0, none⟩ by rw [HP2.out]] at hgr
           have HGR := Lib.hid hgr; have HO1 := Lib.hid ho1; have HB1 := Lib.hid hb1
           clear hown' hgrow hloc ho1 hb1 e32 hown2 hbx1 hgr)
        | (refine ⟨trivial, ?_⟩; gi_at_call 54
           obtain ⟨ht2, hk2, hm2⟩ := HGR.out
           have hrow2 := ht2.row
           have hl2 : (xs ++ [32]).length = N + 1 + 1 := by rw [List.length_append, HNN.out]; rfl
           rw [hl2] at hrow2
           have hb2 : Below (w.heap.size + 1) W (W1.setCell ⟨p2, 0, none⟩ (.slice (some ⟨g', 0, none⟩) (N + 1 + 1) cap')) := hm2.below (by omega) (by omega) (fun k hk h => by unfold TxS at h; omega)
           have hAI := sh_AppendInt (w.heap.size + 1) (N + 1 + 1) xi (by omega) (by omega) (.slice (some ⟨g', 0, none⟩) (N + 1 + 1) cap') (Lib.byteCells (xs ++ [32])) _ hrow2 (by have := hb2.size; omega) (by omega) (HTB.out _ hb2)
           have HF := HFIN.out (xs ++ [32]) _ _ (HSN.out (xs ++ [32]) (by rw [if_pos H1.out])) ht2 hk2 hm2
           rw [hl2] at HF
           refine (callsIn_wide.2 hAI).mono ?_; rintro e W3 ⟨v3, rfl, ho3, hb3, hk3⟩; obtain ⟨g3, cap3, rfl⟩ := row_slice ho3 (by omega); obtain ⟨⟨hc3, hf3⟩, hres⟩ := HF W3 _ ho3 hb3 hk3; have HRES := Lib.hid hres; clear hres ho3 hb3 hk3 HF hAI hrow2 hl2 ht2 hk2 hm2 hb2))
      exact HRES.out
    · have h1' : ¬ (1 : Int) < (N : Int) + 1 := by have := HNN.out; omega
      have hAI := sh_AppendInt (w.heap.size + 1) (N + 1) xi (by omega) (by omega) (.slice (some ⟨g, 0, none⟩) (N + 1) cap) (Lib.byteCells xs) W HROW.out hW0 (by omega) (HTB.out W (Below.refl _ _))
      have HAI := Lib.hid hAI
      have HF := Lib.hid (HFIN.out xs W _ (HSN.out xs (by rw [if_neg h1])) HT.out (KeepsFrom.refl _ _) (KeepM.refl _ _ _))
      rw [HNN.out] at HF
      clear hAI h1 HFIN
      gi_wp2_with (refine ⟨trivial, ?_⟩; gi_at_call 54; refine (callsIn_wide.2 HAI.out).mono ?_; rintro e W3 ⟨v3, rfl, ho3, hb3, hk3⟩; obtain ⟨g3, cap3, rfl⟩ := row_slice ho3 (by omega); obtain ⟨⟨hc3, hf3⟩, hres⟩ := HF.out W3 _ ho3 hb3 hk3; have HRES := Lib.hid hres; clear hres ho3 hb3 hk3)
      exact HRES.out
  case done =>
    rintro D ys W hD hys ⟨⟨v, ht⟩, hB⟩ hK
    have hml := HML.out
    have hBs := hB.size
    have hle := txt_le (ys.map (·.1)) (fun y hy => by
      obtain ⟨z, _, rfl⟩ := List.mem_map.1 hy
      have := z.2
      omega)
    have hge := txt_len (ys.map (·.1))
    have hl4 := congrArg List.length hys
    rw [List.length_map] at hle hl4
    have htx : txt (ys.map (·.1)) ++ [125] = textS M := by rw [hys]; rfl
    generalize txt (ys.map (·.1)) = xs at *
    have hc : W.cell? ⟨p2, 0, none⟩ = some v := by rw [HP2.out]; exact ht.box.cell
    have hrc := row_cells ht.row
    obtain ⟨N, hN⟩ : ∃ N, xs.length = N + 1 := ⟨xs.length - 1, by omega⟩
    have hrow := ht.row
    rw [hN] at hrow
    obtain ⟨g, cap, rfl⟩ := ownsRow_succ hrow
    have hNb : N ≤ 100000 := by omega
    have HROW := Lib.hid hrow; have HRC := Lib.hid hrc; have HT := Lib.hid ht; have HBB := Lib.hid hB; have HTX := Lib.hid htx; have HNN := Lib.hid hN; have HKD := Lib.hid hK
    clear hrow hrc ht hB htx hN hys hle hge hl4 hml hK
    gi_wp2_with (gi_at_builtin; refine wpListIn_append_own_at _ rfl _ _ 49 rfl (w.heap.size + 1) 5 i0 (.int .u8 0) 1 1 Tryd.underlying49 hi hz0 hz1 hz2 rfl (by decide) _ _ _ rfl (HROW.out.alloc _) ⟨W.heap.size, 0, none⟩ 1 1 [.int .u8 125] rfl rfl (cell_one_new _ _ _) (by simp [Value.oneCell']) (by unfold maxLen; omega) (by omega) (by simp; omega) ?_
                 intro v' W1 hown' hgrow _ hloc
                 obtain ⟨g', cap', rfl⟩ := ownsRow_succ hown'
                 have e25 : Lib.byteCells xs ++ [.int .u8 125] = Lib.byteCells (textS M) := by rw [← HTX.out]; simp [Lib.byteCells]
                 rw [e25] at hown'
                 have kc := conv_row hown' (by rw [← HTX.out, List.length_append, HNN.out]; rfl)
                 have HG := Lib.hid hgrow
                 clear hown' hgrow hloc)
    have hKD1 : W1.heap[D]? = some (.deferred (some [])) := by
      have hlt : D < W.heap.size := (Array.getElem?_eq_some_iff.1 HKD.out).1
      refine (HG.out.block D (by simp; omega) (fun e2 => ?_)).trans ((Below.heap_alloc W _ D hlt).trans HKD.out)
      obtain ⟨_, c, fz, h⟩ := HRC.out D e2.symm
      rw [HKD.out] at h
      cases h
    refine ⟨by simp, .inl ⟨_, _, rfl, run_takeDeferred hKD1, ?_⟩⟩
    have hm := (HBB.out.trans ((KeepM.grown (S := TxS w.heap.size) (M := w.heap.size + 4) (World.grownBy_alloc W _ none) (fun r e => by cases e)).trans (KeepM.grown HG.out (fun r e => (HT.out.at_ r e).elim (fun h => Or.inr (Or.inl h)) Or.inl)))).trans (KeepM.putB W1 D _ (.deferred none) (by omega) hKD1 rfl rfl)
    exact ⟨_, results_tmp rfl _ _ _, rfl, HK.out.trans (hm.kept (by omega)) (fun _ _ h => h.elim) (fun i hi h => by unfold TxS at h; omega)⟩
  case stop =>
    rintro D c pre W _ _ h _
    exact h.elim

/-- The text of a set. -/
theorem text_any (w : World) (v : Value) (M : Nat) (h : SetV w v M) (hS : Small M) (hT : Tz w) (hP : Lib.TabBelow Tryd.prog w.heap.size w "internal/strconv.uint64pow10" .u64 Lib.pow10Tab) :
    Calls Tryd.prog 27 #[v] w fun e w' => e = .returned (.string ⟨(textS M).toArray⟩) ∧ Kept (fun _ => False) w w' := by
  obtain ⟨hv, hs, rfl, hw, hc, -⟩ := h.ex
  obtain ⟨va, vc, rfl⟩ := hw.form
  exact text_at w _ _ vc va M hs rfl rfl hw hc (hc.small hS) hT hP
end Go.Proofs.YteaagllpkcpedaaDoor
