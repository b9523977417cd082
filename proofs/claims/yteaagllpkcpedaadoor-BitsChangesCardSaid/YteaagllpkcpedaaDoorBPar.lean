/-
  bits.Parse.
-/
import Derived.Test.YteaagllpkcpedaaDoorBPs
import Derived.Test.YteaagllpkcpedaaDoorBTxt
import Derived.Test.YteaagllpkcpedaaDoorOfN
import Derived.Test.YteaagllpkcpedaaDoorMembers
namespace Go.Proofs.YteaagllpkcpedaaDoor
open Go.RowKit Go.Shelf
attribute [local go_sem] Oper.semAt_some

set_option maxRecDepth 100000 in
theorem fseq_any (w : World) (s : ByteArray) :
    Calls Tryd.prog 49 #[.string s] w fun e w' => e = .returned (.func (.func 60) #[] #[.pointer (some ⟨w.heap.size, 0, none⟩)]) ∧ w' = w.alloc (.cells #[.string s] 9) := by
  go_enter Tryd.func49, Tryd.ntmps49
  go_wp2_with fail
  go_ret
  exact ⟨rfl, rfl⟩

/-- What the loop holds: the numbers so far, in a row of its own behind the variable. -/
def ParI (w w2 : World) (fs : List ByteArray) (W : World) : Prop :=
  (∀ x ∈ fs, (fieldV x).isSome = true) ∧ (∃ v, Boxed W (w.heap.size + 2) 22 v ∧ W.ownsRow 0 3 1 v fs.length ((valsOf fs).map (Value.int .i64)) ∧ (∀ k, v.ownBlock = some k → w2.heap.size ≤ k)) ∧ KeepM (fun k => k = w.heap.size + 2) w2.heap.size w2 W
/-- How it is left early. -/
def ParX (w : World) (fs : List ByteArray) (W : World) : Prop :=
  (∃ x ∈ fs, fieldV x = none) ∧ W.heap[w.heap.size]? = some (.cells #[.int .u64 0, .slice none 0 0] 28 (0, 0)) ∧ W.heap[w.heap.size + 1]? = some (.cells #[.int .i64 6] 42 (0, 0)) ∧ Kept (fun _ => False) w W

theorem set_two {W : World} {b : Nat} {t : TypeId} {x y : Value} (h : W.heap[b]? = some (.cells #[x, y] t (0, 0))) (x' y' : Value) : ((W.setCell ⟨b, 0, none⟩ x').setCell ⟨b, 1, none⟩ y').heap[b]? = some (.cells #[x', y'] t (0, 0)) := by
  simp [World.setCell, Array.getElem?_modify, h]
theorem set_other {W : World} {b k : Nat} {o : Nat} (x : Value) (hn : k ≠ b) : (W.setCell ⟨b, o, none⟩ x).heap[k]? = W.heap[k]? := by
  have h2 : b ≠ k := fun e => hn e.symm
  simp [World.setCell, Array.getElem?_modify, h2]
theorem set_one {W : World} {b : Nat} {t : TypeId} {x : Value} (h : W.heap[b]? = some (.cells #[x] t (0, 0))) (x' : Value) : (W.setCell ⟨b, 0, none⟩ x').heap[b]? = some (.cells #[x'] t (0, 0)) := by
  simp [World.setCell, Array.getElem?_modify, h]
theorem SetV.onK {a b : World} {v : Value} {M : Nat} (h : SetV a v M) (hk : Kept (fun _ => False) a b) : SetV b v M := by
  obtain ⟨hv, hs, e, hw, hc, hn⟩ := h.ex
  exact ⟨⟨hv, hs, e, hw.kept hk (fun _ _ h => h), hc, hn⟩⟩
theorem row_form {W : World} {base : Nat} {e : TypeId} {size : Nat} {v : Value} {k : Nat} {xs : List Value} (h : W.ownsRow base e size v k xs) : ∃ a c, v = .slice a k c := by
  obtain ⟨_, hh⟩ := h
  rcases hh with ⟨rfl, rfl⟩ | ⟨g, cap, cur, rfl, _⟩
  · exact ⟨_, _, rfl⟩
  · exact ⟨_, _, rfl⟩
theorem kept_from {a b : World} (h : Kept (fun _ => False) a b) (B : Nat) : KeepsFrom B a b := ⟨h.size, fun k _ _ hk _ => (h.block k (Array.getElem?_eq_some_iff.1 hk).1 (fun h => h)).trans hk⟩
theorem kept_keepM {a b : World} (h : Kept (fun _ => False) a b) (S : Nat → Prop) (M : Nat) : KeepM S M a b := ⟨h.os, h.tape, h.output, h.size, fun k _ h2 _ => h.block k h2 (fun h => h)⟩
theorem boxed_on {a b : World} {B : Nat} {t : TypeId} {v : Value} (h : Boxed a B t v) (hk : Kept (fun _ => False) a b) : Boxed b B t v := (hk.block B h.lt (fun h => h)).trans h

theorem cell_of {W : World} {b o : Nat} {cs : Array Value} {t : TypeId} {v : Value} (h : W.heap[b]? = some (.cells cs t (0, 0))) (ho : cs[o]? = some v) : W.cell? ⟨b, o, none⟩ = some v ∧ W.frozen? ⟨b, o, none⟩ = false := by
  simp [World.cell?, World.frozen?, h, ho]
theorem res_cells {w W W1 : World} (h0 : W.heap[w.heap.size]? = some (.cells #[.int .u64 0, .slice none 0 0] 28 (0, 0))) (h1 : W.heap[w.heap.size + 1]? = some (.cells #[.int .i64 0] 42 (0, 0))) (hk : Kept (fun _ => False) W W1) :
    W1.cell? ⟨w.heap.size, 0, none⟩ = some (.int .u64 0) ∧ W1.cell? ⟨w.heap.size, 1, none⟩ = some (.slice none 0 0) ∧ W1.cell? ⟨w.heap.size + 1, 0, none⟩ = some (.int .i64 0) ∧ W1.frozen? ⟨w.heap.size, 0, none⟩ = false ∧ W1.frozen? ⟨w.heap.size, 1, none⟩ = false ∧ W1.frozen? ⟨w.heap.size + 1, 0, none⟩ = false := by
  have o0 := (hk.block _ (Array.getElem?_eq_some_iff.1 h0).1 (fun h => h)).trans h0
  have o1 := (hk.block _ (Array.getElem?_eq_some_iff.1 h1).1 (fun h => h)).trans h1
  refine ⟨(cell_of o0 rfl).1, (cell_of o0 rfl).1, (cell_of o1 rfl).1, (cell_of o0 rfl).2, (cell_of (o := 1) o0 rfl).2, (cell_of o1 rfl).2⟩

/-- The end of the call: the results in their boxes, the deferred list taken. -/
theorem par_fin {w W3 : World} {D p1 : Nat} (x y e : Value) (hp1 : p1 = w.heap.size + 1) (hD : w.heap.size + 2 ≤ D) (hDW : W3.heap[D]? = some (.deferred (some [])))
    (o0 : W3.heap[w.heap.size]? = some (.cells #[.int .u64 0, .slice none 0 0] 28 (0, 0))) (o1 : W3.heap[w.heap.size + 1]? = some (.cells #[.int .i64 0] 42 (0, 0))) (hk : Kept (fun k => w.heap.size ≤ k) w W3) :
    (((W3.setCell ⟨w.heap.size, 0, none⟩ x).setCell ⟨w.heap.size, 1, none⟩ y).setCell ⟨p1, 0, none⟩ e).heap[D]? = some (.deferred (some [])) ∧
    Kept (fun _ => False) w ((((W3.setCell ⟨w.heap.size, 0, none⟩ x).setCell ⟨w.heap.size, 1, none⟩ y).setCell ⟨p1, 0, none⟩ e).putObj D (.deferred none)) ∧
    Kept (fun k => k = w.heap.size ∨ k = w.heap.size + 1 ∨ k = D) W3 ((((W3.setCell ⟨w.heap.size, 0, none⟩ x).setCell ⟨w.heap.size, 1, none⟩ y).setCell ⟨p1, 0, none⟩ e).putObj D (.deferred none)) ∧
    ((((W3.setCell ⟨w.heap.size, 0, none⟩ x).setCell ⟨w.heap.size, 1, none⟩ y).setCell ⟨p1, 0, none⟩ e).putObj D (.deferred none)).cell? ⟨w.heap.size, 0, none⟩ = some x ∧
    ((((W3.setCell ⟨w.heap.size, 0, none⟩ x).setCell ⟨w.heap.size, 1, none⟩ y).setCell ⟨p1, 0, none⟩ e).putObj D (.deferred none)).cell? ⟨w.heap.size, 1, none⟩ = some y ∧
    ((((W3.setCell ⟨w.heap.size, 0, none⟩ x).setCell ⟨w.heap.size, 1, none⟩ y).setCell ⟨p1, 0, none⟩ e).putObj D (.deferred none)).cell? ⟨w.heap.size + 1, 0, none⟩ = some e := by
  subst hp1
  have q0 : (((W3.setCell ⟨w.heap.size, 0, none⟩ x).setCell ⟨w.heap.size, 1, none⟩ y).setCell ⟨w.heap.size + 1, 0, none⟩ e).heap[w.heap.size]? = some (.cells #[x, y] 28 (0, 0)) := by
    rw [set_other _ (by omega)]; exact set_two o0 _ _
  have q1 : (((W3.setCell ⟨w.heap.size, 0, none⟩ x).setCell ⟨w.heap.size, 1, none⟩ y).setCell ⟨w.heap.size + 1, 0, none⟩ e).heap[w.heap.size + 1]? = some (.cells #[e] 42 (0, 0)) := by
    refine set_one (x := .int .i64 0) ?_ _
    rw [set_other _ (by omega), set_other _ (by omega)]; exact o1
  have qD : (((W3.setCell ⟨w.heap.size, 0, none⟩ x).setCell ⟨w.heap.size, 1, none⟩ y).setCell ⟨w.heap.size + 1, 0, none⟩ e).heap[D]? = some (.deferred (some [])) := by
    rw [set_other _ (by omega), set_other _ (by omega), set_other _ (by omega)]; exact hDW
  have KS : Kept (fun k => k = w.heap.size ∨ k = w.heap.size + 1 ∨ k = D) W3 (((W3.setCell ⟨w.heap.size, 0, none⟩ x).setCell ⟨w.heap.size, 1, none⟩ y).setCell ⟨w.heap.size + 1, 0, none⟩ e) :=
    ((Kept.setCell _ W3 ⟨w.heap.size, 0, none⟩ x (Or.inl rfl)).trans (Kept.setCell _ _ ⟨w.heap.size, 1, none⟩ y (Or.inl rfl)) (fun _ _ h => h) (fun _ _ h => h)).trans (Kept.setCell _ _ ⟨w.heap.size + 1, 0, none⟩ e (Or.inr (Or.inl rfl))) (fun _ _ h => h) (fun _ _ h => h)
  generalize ((W3.setCell ⟨w.heap.size, 0, none⟩ x).setCell ⟨w.heap.size, 1, none⟩ y).setCell ⟨w.heap.size + 1, 0, none⟩ e = WF at *
  have hg := grownBy_putObj' WF D (.deferred none)
  have p0 := (hg.block _ (Array.getElem?_eq_some_iff.1 q0).1 (fun e => by injection e with e; omega)).trans q0
  have p1 := (hg.block _ (Array.getElem?_eq_some_iff.1 q1).1 (fun e => by injection e with e; omega)).trans q1
  have KP : Kept (fun k => k = w.heap.size ∨ k = w.heap.size + 1 ∨ k = D) W3 (WF.putObj D (.deferred none)) := KS.trans (Kept.ofGrown (S := fun k => k = D) hg (fun k e => by injection e with e; exact e.symm)) (fun _ _ h => h) (fun _ _ h => Or.inr (Or.inr h))
  exact ⟨qD, hk.trans KP (fun i hi h => by omega) (fun i hi h => by omega), KP, (cell_of p0 rfl).1, (cell_of p0 rfl).1, (cell_of p1 rfl).1⟩

set_option maxRecDepth 100000 in
set_option maxHeartbeats 3200000 in
theorem parse_any (w : World) (s : ByteArray) (hs : s.size ≤ 4000) (hL : Libs w) :
    Calls Tryd.prog 25 #[.string s] w fun e w' => ((parseS s = none ∧ e = .returned (.tuple #[.agg #[.int .u64 0, .slice none 0 0], .int .i64 6])) ∨ ∃ v M, parseS s = some M ∧ e = .returned (.tuple #[v, .int .i64 0]) ∧ SetV w' v M ∧ (∀ k, setBlk v k → w.heap.size ≤ k)) ∧ Kept (fun _ => False) w w' := by
  refine (callsIn_wide (n := 3)).1 ?_
  obtain ⟨i0, hi, hz0, hz1, hz2⟩ := info_parts info_int9
  refine callsIn_of_wp_marks Tryd.func25 rfl trivial ?_ rfl
  simp only [Tryd.ntmps25, List.size_toArray, List.length_cons, List.length_nil, Nat.reduceAdd, Nat.reduceSub, Array.replicate_succ, Array.replicate_zero, List.push_toArray, List.append_toArray, List.nil_append, List.cons_append]
  gi_wp2_with (first
    | (refine ⟨trivial, ?_⟩; gi_at_call 50; refine (callsIn_wide.2 (sh_Trim s _ (by omega))).mono ?_; rintro e w1 ⟨rfl, hk1⟩)
    | (refine ⟨trivial, ?_⟩; gi_at_call 49; refine (callsIn_wide.2 (fseq_any _ _)).mono ?_; rintro e w2 ⟨rfl, hw2⟩))
  have KA : Kept (fun _ => False) w (((w.alloc (.cells #[.int .u64 0, .slice none 0 0] 28)).alloc (.cells #[.int .i64 0] 42)).alloc (.cells #[.slice none 0 0] 22)) := ((Kept.alloc _ _ _).then (Kept.alloc _ _ _)).then (Kept.alloc _ _ _)
  have hA3 : (((w.alloc (.cells #[.int .u64 0, .slice none 0 0] 28)).alloc (.cells #[.int .i64 0] 42)).alloc (.cells #[.slice none 0 0] 22)).heap.size = w.heap.size + 3 := by simp
  have hb1 := hk1.size
  rw [hA3] at hb1
  have hB2 : Boxed w1 (w.heap.size + 2) 22 (.slice none 0 0) := by
    show w1.heap[_]? = _
    rw [hk1.block _ (by rw [hA3]; omega) (fun h => h)]
    have := Boxed.new ((w.alloc (.cells #[.int .u64 0, .slice none 0 0] 28)).alloc (.cells #[.int .i64 0] 42)) 22 (.slice none 0 0)
    simpa [Boxed] using this
  have hR0 : w1.heap[w.heap.size]? = some (.cells #[.int .u64 0, .slice none 0 0] 28 (0, 0)) := by
    rw [hk1.block _ (by rw [hA3]; omega) (fun h => h), Below.heap_alloc _ _ _ (by simp; omega), Below.heap_alloc _ _ _ (by simp)]
    exact heap_alloc_new w _
  have hR1 : w1.heap[w.heap.size + 1]? = some (.cells #[.int .i64 0] 42 (0, 0)) := by
    rw [hk1.block _ (by rw [hA3]; omega) (fun h => h), Below.heap_alloc _ _ _ (by simp)]
    have := heap_alloc_new (w.alloc (.cells #[.int .u64 0, .slice none 0 0] 28)) (.cells #[.int .i64 0] 42)
    simpa using this
  have hkw : Kept (fun _ => False) w w1 := KA.then hk1
  have hk2 : Kept (fun _ => False) w1 w2 := by rw [hw2]; exact Kept.alloc _ _ _
  have hs2 : w2.heap.size = w1.heap.size + 1 := by rw [hw2]; simp
  have hc2 : w2.cell? ⟨w1.heap.size, 0, none⟩ = some (.string (trimB s)) := by rw [hw2]; go_simp
  have hlB : LibsB w.heap.size w2 := hL.toB.on ((hkw.then hk2).below (Nat.le_refl _) (fun _ h => h.elim))
  have hS := fs_stops (fun k => k = w.heap.size + 2) w.heap.size w2.heap.size w1.heap.size (trimB s) w2 ⟨hc2, by omega, hlB⟩ (by have := trimB_size s; omega) (by omega) (by omega) (by omega) (fun k h1 h2 => by omega)
  have hB2' : Boxed w2 (w.heap.size + 2) 22 (.slice none 0 0) := (hk2.block _ (by omega) (fun h => h)).trans hB2
  have hR0' := (hk2.block _ (by omega) (fun h => h)).trans hR0
  have hR1' := (hk2.block _ (by omega) (fun h => h)).trans hR1
  rw [← hw2]
  have HW2 := Lib.hid (hkw.then hk2); have HB2 := Lib.hid hB2'; have HR0 := Lib.hid hR0'; have HR1 := Lib.hid hR1'; have HLB := Lib.hid hlB; have HS2 := Lib.hid hs2
  clear hw2 hk1 KA hA3 hB2 hR0 hR1 hkw hk2 hc2 hlB hB2' hR0' hR1'
  obtain ⟨p1, hp1⟩ : ∃ p1, p1 = w.heap.size + 1 := ⟨_, rfl⟩
  obtain ⟨p2, hp2⟩ : ∃ p2, p2 = w.heap.size + 1 + 1 := ⟨_, rfl⟩
  rw [← hp2, ← hp1]
  have HP1 := Lib.hid hp1; have HP2 := Lib.hid hp2
  clear hp1 hp2
  have hN := trimB_size s
  refine wpIn_rangeFunc_ownG rfl (by omega) (gf := 60) (lb := #[.pointer (some ⟨w1.heap.size, 0, none⟩)]) rfl trivial (enters_of Tryd.func60 (by kernel_rfl) rfl)
    hS KeepM.trans (fun W l o o' hl h h1 h2 => KeepM.putB W l o o' hl h h1 h2) (Below.refl _ _) (fun _ => rfl)
    (fun pre W => ParI w w2 (pre.map (·.1)) W)
    (fun c pre W => c = .ret ∧ ParX w (pre.map (·.1)) W) ?_ ?_
    ⟨fun x hx => by simp at hx, ⟨_, HB2.out, ⟨rfl, Or.inl ⟨rfl, rfl⟩⟩, fun k hk => by cases hk⟩, KeepM.refl _ _ _⟩
    (fun x => { tmps := #[.string s, undef, .pointer (some ⟨w.heap.size, 0, none⟩), .pointer (some ⟨p1, 0, none⟩), .pointer (some ⟨p2, 0, none⟩), .string x.1, undef, undef, undef, .string s, .string (trimB s),
      .func (.func 60) #[] #[.pointer (some ⟨w1.heap.size, 0, none⟩)], .string x.1, undef, undef, undef, undef, undef, undef, undef, undef, undef, undef, undef, undef, undef, undef, undef, undef, undef, undef, undef, undef, undef, undef, undef, undef, undef, undef, undef, undef, undef, undef], defers := [] }) ?assign ?body ?done ?stop
  · rintro q W W' row ⟨h1, ⟨v, hb, hr, ha⟩, hm⟩ hg hr'
    have := (holdsRow_own 0 (w.heap.size + 2) 22 3 1 (fun q : List Fld => (q.map (·.1)).length) (fun q : List Fld => (valsOf (q.map (·.1))).map (Value.int .i64)) (fun _ v => ∀ k, v.ownBlock = some k → w2.heap.size ≤ k)).from _ q W W' row ⟨v, hb, hr, ha⟩ hg hr'
    exact ⟨h1, this, hm.trans (KeepM.grown hg (fun r e => Or.inl (hr' r e).1))⟩
  · rintro c q W W' row ⟨hc, h1, h2, h3, h4⟩ hg hr
    have hs2 := HS2.out
    have hl0 := (Array.getElem?_eq_some_iff.1 h2).1
    have hl1 := (Array.getElem?_eq_some_iff.1 h3).1
    refine ⟨hc, h1, (hg.block _ hl0 (fun e => ?_)).trans h2, (hg.block _ hl1 (fun e => ?_)).trans h3, h4.trans (Kept.ofGrown (S := fun k => w2.heap.size ≤ k) hg (fun k e => (hr k e).1)) (fun _ _ h => h) (fun i hi h => by omega)⟩
    · have := (hr _ e.symm).1; omega
    · have := (hr _ e.symm).1; omega
  case assign =>
    intro l x W K hK
    gi_wp2
    exact hK
  case body =>
    rintro l pre ⟨xb, hxs⟩ W ⟨h1, ⟨v, hb, hr, hra⟩, hm⟩ hlt
    have hs2 := HS2.out
    have hms := hm.size
    have hmp : (pre ++ [(⟨xb, hxs⟩ : Fld)]).map (·.1) = pre.map (·.1) ++ [xb] := by rw [List.map_append]; rfl
    have hbw : Below w.heap.size w2 W := hm.below (by omega) (by omega) (fun k h1 h2 => by omega)
    have hLW := (HLB.out.on hbw).at
    have ne1 : ¬ p1 = w.heap.size := by have := HP1.out; omega
    have ne2 : ¬ w.heap.size = p1 := by have := HP1.out; omega
    have hn : (pre.map (·.1)).length ≤ 4000 := by rw [List.length_map]; omega
    obtain ⟨a, c, rfl⟩ := row_form hr
    have hc : W.cell? ⟨p2, 0, none⟩ = some (.slice a (pre.map (·.1)).length c) := by rw [HP2.out]; exact hb.cell
    have h0o := (hm.block w.heap.size (by omega) (by omega) (by omega)).trans HR0.out
    have h1o := (hm.block (w.heap.size + 1) (by omega) (by omega) (by omega)).trans HR1.out
    have HX : Hid (∀ W3, Kept (fun _ => False) W W3 → fieldV xb = none → KeepsFrom w2.heap.size W (((W3.setCell ⟨w.heap.size, 0, none⟩ (.int .u64 0)).setCell ⟨w.heap.size, 1, none⟩ (.slice none 0 0)).setCell ⟨p1, 0, none⟩ (.int .i64 6)) ∧
        ParX w ((pre ++ [(⟨xb, hxs⟩ : Fld)]).map (·.1)) (((W3.setCell ⟨w.heap.size, 0, none⟩ (.int .u64 0)).setCell ⟨w.heap.size, 1, none⟩ (.slice none 0 0)).setCell ⟨p1, 0, none⟩ (.int .i64 6))) := by
      intro W3 k3 hf
      have l3 := k3.size
      have o0 := (k3.block _ (Array.getElem?_eq_some_iff.1 h0o).1 (fun h => h)).trans h0o
      have o1 := (k3.block _ (Array.getElem?_eq_some_iff.1 h1o).1 (fun h => h)).trans h1o
      have KS : Kept (fun k => k = w.heap.size ∨ k = p1) W3 (((W3.setCell ⟨w.heap.size, 0, none⟩ (.int .u64 0)).setCell ⟨w.heap.size, 1, none⟩ (.slice none 0 0)).setCell ⟨p1, 0, none⟩ (.int .i64 6)) :=
        ((Kept.setCell (fun k => k = w.heap.size ∨ k = p1) W3 ⟨w.heap.size, 0, none⟩ _ (Or.inl rfl)).trans (Kept.setCell (fun k => k = w.heap.size ∨ k = p1) _ ⟨w.heap.size, 1, none⟩ _ (Or.inl rfl)) (fun _ _ h => h) (fun _ _ h => h)).trans (Kept.setCell (fun k => k = w.heap.size ∨ k = p1) _ ⟨p1, 0, none⟩ _ (Or.inr rfl)) (fun _ _ h => h) (fun _ _ h => h)
      have hp1 := HP1.out
      refine ⟨(kept_from k3 _).trans ⟨KS.size, fun k o hB hk hc => (KS.block k (Array.getElem?_eq_some_iff.1 hk).1 (fun h => by omega)).trans hk⟩, ⟨xb, by rw [hmp]; simp, hf⟩, ?_, ?_, ?_⟩
      · rw [set_other _ (by omega)]
        exact set_two o0 _ _
      · rw [← hp1]
        refine set_one (x := .int .i64 0) ?_ _
        rw [set_other _ (by omega), set_other _ (by omega), hp1]
        exact o1
      · exact (HW2.out.trans ((hm.kept (Nat.le_refl _)).trans (k3.trans KS (T := fun k => k = w.heap.size ∨ k = p1) (fun _ _ h => h.elim) (fun _ _ h => h)) (T := fun k => w.heap.size ≤ k) (fun _ _ h => by omega) (fun _ _ h => by omega)) (fun _ _ h => h.elim) (fun i hi h => by omega))
    generalize hnn : (pre.map (·.1)).length = n at *
    rcases ha : Lib.atoiAll xb.data.toList with vv | _ | _
    · skip
      by_cases hp : 0 ≤ vv ∧ vv ≤ 4095
      · have hf : fieldV xb = some vv := by unfold fieldV; rw [ha]; exact if_pos hp
        have hvs : valsOf (pre.map (·.1) ++ [xb]) = valsOf (pre.map (·.1)) ++ [vv] := by simp [valsOf, hf]
        have hn' : (n : Int) ≤ 4000 := by omega
        have HB := Lib.hid hb; have HR := Lib.hid hr; have HRA := Lib.hid hra; have HM := Lib.hid hm; have HA := Lib.hid ha; have HMP := Lib.hid hmp; have HVS := Lib.hid hvs; have HF := Lib.hid hf; have H1 := Lib.hid h1; have HN := Lib.hid hnn
        clear hb hr hra hm ha hmp hvs hf h1 h0o h1o HX hbw hLW hnn
        gi_wp2_with (first
          | (refine ⟨trivial, ?_⟩; gi_at_call 51; refine (callsIn_wide.2 (sh_Atoi_ok xb vv HA.out hxs W)).mono ?_; rintro e W1 ⟨rfl, k1⟩; have b1 := boxed_on HB.out k1; have hc1 : W1.cell? ⟨p2, 0, none⟩ = some (.slice a n c) := by rw [HP2.out]; exact b1.cell
             have B1 := Lib.hid b1; have K1 := Lib.hid k1; have R1 := Lib.hid (k1.owns HR.out (fun _ _ h => h)); clear b1 k1)
          | (refine ⟨trivial, ?_⟩; gi_at_call 40; refine (callsIn_wide.2 (possible_yes _ vv hp.1 hp.2)).mono ?_; rintro e W2 ⟨rfl, rfl⟩)
          | (gi_at_builtin; refine wpListIn_append_own_at _ rfl _ _ 22 rfl 0 3 i0 (.int .i64 0) 1 8 Tryd.underlying22 hi hz0 hz1 hz2 rfl (by decide) _ _ _ rfl (R1.out.alloc _) ⟨W1.heap.size, 0, none⟩ 1 1 [.int .i64 vv] rfl rfl (cell_one_new _ _ _) (by simp [Value.oneCell']) (by unfold maxLen; omega) (by omega) (Nat.zero_le _) ?_
             intro v' w3 hown' hgrow _ hloc
             obtain ⟨g', cap', rfl⟩ := ownsRow_succ hown'
             obtain ⟨hv1, hv2, hr2, hk2, _⟩ := B1.out.appended (by decide) R1.out (Nat.zero_le _) (Nat.zero_le _) hown' hgrow
             rw [show (⟨w.heap.size + 2, 0, none⟩ : Addr) = ⟨p2, 0, none⟩ by rw [HP2.out]] at hv2 hr2 hk2
             have hc3 : w3.cell? ⟨p2, 0, none⟩ = some (.slice a n c) := by rw [HP2.out]; exact hv1.cell
             have hf3 : w3.frozen? ⟨p2, 0, none⟩ = false := by rw [HP2.out]; exact hv1.frozen
             have HG := Lib.hid hgrow; have HLO := Lib.hid hloc; have HV2 := Lib.hid hv2; have HR2 := Lib.hid hr2; have HK2 := Lib.hid hk2
             clear hown' hgrow hloc hv1 hv2 hr2 hk2))
        have hkm : KeepM (fun k => k = w.heap.size + 2) w2.heap.size W (w3.setCell ⟨p2, 0, none⟩ (.slice (some ⟨g', 0, none⟩) (n + 1) cap')) :=
          (((kept_keepM K1.out _ _).trans (KeepM.grown (World.grownBy_alloc W1 _ none) (fun r e => by cases e))).trans (KeepM.grown HG.out (fun r e => Or.inl (HRA.out r e)))).trans (KeepM.grown (grownBy_setCell' w3 p2 _) (fun r e => by cases e; exact Or.inr HP2.out))
        have hsW1 := K1.out.size
        refine ⟨(kept_from K1.out _).trans (HK2.out.from _), hkm, ?_, ⟨_, HV2.out, ?_, fun k hk => ?_⟩, HM.out.trans hkm⟩
        · intro y hy
          rw [HMP.out] at hy
          rcases List.mem_append.1 hy with hy | hy
          · exact H1.out y hy
          · obtain rfl := List.mem_singleton.1 hy
            rw [HF.out]; rfl
        · rw [HMP.out, HVS.out, List.length_append, HN.out, List.map_append]
          exact HR2.out
        · rcases HLO.out with h | h
          · exact HRA.out k (h.symm.trans hk)
          · rw [h] at hk
            have : k = W1.heap.size + 1 := by simpa using hk.symm
            omega
      · have hf : fieldV xb = none := by unfold fieldV; rw [ha]; exact if_neg hp
        have HXX := Lib.hid (fun (W3 : World) (k3 : Kept (fun _ => False) W W3) => HX.out W3 k3 hf)
        have HA := Lib.hid ha; have HH0 := Lib.hid h0o; have HH1 := Lib.hid h1o
        clear hb hr hra hm ha hmp hf h1 h0o h1o HX hbw hLW hnn hc
        gi_wp2_with (first
          | (refine ⟨trivial, ?_⟩; gi_at_call 51; refine (callsIn_wide.2 (sh_Atoi_ok xb vv HA.out hxs W)).mono ?_; rintro e W1 ⟨rfl, k1⟩; have K1 := Lib.hid k1
             obtain ⟨c0, c1, c2, f0, f2, f1⟩ := res_cells HH0.out HH1.out k1
             rw [← HP1.out] at c2 f1
             clear k1)
          | (refine ⟨trivial, ?_⟩; gi_at_call 40; refine (callsIn_wide.2 (possible_no _ vv (by omega))).mono ?_; rintro e W2 ⟨rfl, rfl⟩))
        exact ⟨(HXX.out W1 K1.out).1, rfl, (HXX.out W1 K1.out).2⟩
    · skip
      have hno : ∀ v, Lib.atoiAll xb.data.toList ≠ .ok v := fun v e => by rw [ha] at e; cases e
      have hf : fieldV xb = none := by unfold fieldV; rw [ha]
      have HXX := Lib.hid (fun (W3 : World) (k3 : Kept (fun _ => False) W W3) => HX.out W3 k3 hf)
      have HA := Lib.hid hno; have HH0 := Lib.hid h0o; have HH1 := Lib.hid h1o
      clear hb hr hra hm ha hmp hf h1 h0o h1o HX hbw hnn hc hno
      gi_wp2_with (first
        | (refine ⟨trivial, ?_⟩; gi_at_call 51; refine (callsIn_wide.2 (sh_Atoi_no xb HA.out hxs W hLW)).mono ?_; rintro e W1 ⟨⟨vv, N, rfl⟩, k1⟩; have K1 := Lib.hid k1
           obtain ⟨c0, c1, c2, f0, f2, f1⟩ := res_cells HH0.out HH1.out k1
           rw [← HP1.out] at c2 f1
           clear k1)
        | (refine ⟨trivial, ?_⟩))
      exact ⟨(HXX.out W1 K1.out).1, rfl, (HXX.out W1 K1.out).2⟩
    · skip
      have hno : ∀ v, Lib.atoiAll xb.data.toList ≠ .ok v := fun v e => by rw [ha] at e; cases e
      have hf : fieldV xb = none := by unfold fieldV; rw [ha]
      have HXX := Lib.hid (fun (W3 : World) (k3 : Kept (fun _ => False) W W3) => HX.out W3 k3 hf)
      have HA := Lib.hid hno; have HH0 := Lib.hid h0o; have HH1 := Lib.hid h1o
      clear hb hr hra hm ha hmp hf h1 h0o h1o HX hbw hnn hc hno
      gi_wp2_with (first
        | (refine ⟨trivial, ?_⟩; gi_at_call 51; refine (callsIn_wide.2 (sh_Atoi_no xb HA.out hxs W hLW)).mono ?_; rintro e W1 ⟨⟨vv, N, rfl⟩, k1⟩; have K1 := Lib.hid k1
           obtain ⟨c0, c1, c2, f0, f2, f1⟩ := res_cells HH0.out HH1.out k1
           rw [← HP1.out] at c2 f1
           clear k1)
        | (refine ⟨trivial, ?_⟩))
      exact ⟨(HXX.out W1 K1.out).1, rfl, (HXX.out W1 K1.out).2⟩
  case done =>
    rintro D ys W hD hys ⟨h1, ⟨v, hb, hr, hra⟩, hm⟩ hK
    have hs2 := HS2.out
    have hms := hm.size
    have hbw : Below w.heap.size w2 W := hm.below (by omega) (by omega) (fun k h1 h2 => by omega)
    have hkw : Kept (fun k => k = w.heap.size + 2) w2 W := hm.kept (Nat.le_refl _)
    have hLW := HLB.out.on hbw
    have hl2 := congrArg List.length hys
    rw [List.length_map] at hl2
    rw [hys] at h1 hr
    have hI : Ints W v (valsOf (fieldsS (trimB s))) := Ints.ofOwns (xs := valsOf (fieldsS (trimB s))) hr
    have hc : W.cell? ⟨p2, 0, none⟩ = some v := by rw [HP2.out]; exact hb.cell
    have h0o := (hm.block w.heap.size (by omega) (by omega) (by omega)).trans HR0.out
    have h1o := (hm.block (w.heap.size + 1) (by omega) (by omega) (by omega)).trans HR1.out
    have hall : (fieldsS (trimB s)).all (fun x => (fieldV x).isSome) = true := List.all_eq_true.2 h1
    have hps : parseS s = if textS (maskOf (valsOf (fieldsS (trimB s)))) == s.data.toList then some (maskOf (valsOf (fieldsS (trimB s)))) else none := by
      unfold parseS; rw [hall]; rfl
    have hsm := maskOf_small (valsOf (fieldsS (trimB s)))
    have HI := Lib.hid hI; have HKD := Lib.hid hK; have HPS := Lib.hid hps; have HH0 := Lib.hid h0o; have HH1 := Lib.hid h1o; have HKW := Lib.hid hkw; have HLW := Lib.hid hLW
    have hDW : D < W.heap.size := (Array.getElem?_eq_some_iff.1 hK).1
    clear hK hb hr hra hm hbw hkw hLW hys h1 hI h0o h1o hall hps
    generalize valsOf (fieldsS (trimB s)) = xs at *
    obtain ⟨M, hM⟩ : ∃ M, M = maskOf xs := ⟨_, rfl⟩
    rw [← hM] at hsm HPS
    have HMM := Lib.hid hM
    clear hM
    have hT : (⟨(textS M).toArray⟩ : ByteArray) = ⟨(textS M).toArray⟩ := rfl
    have ne1 : ¬ p1 = w.heap.size := by have := HP1.out; omega
    have ne2 : ¬ w.heap.size = p1 := by have := HP1.out; omega
    have hwW : w.heap.size + 2 < W.heap.size := by omega
    by_cases heq : textS M = s.data.toList
    · have hps := HPS.out
      rw [if_pos (by rw [heq]; simp)] at hps
      have HT : Hid ((⟨(textS M).toArray⟩ : ByteArray) = s) := by
        show _ = _
        rw [heq]
      have HPS2 := Lib.hid hps
      clear hT hps heq HPS
      gi_wp2_with (first
      | (refine ⟨trivial, ?_⟩; gi_at_call 12; refine (callsIn_wide.2 (of_any W v xs HI.out)).mono ?_; rintro e W1 ⟨sv, rfl, hset, hsb, k1⟩
         rw [← HMM.out] at hset
         obtain ⟨hv, hs', rfl, hw, hcan, hnil⟩ := hset.ex
         obtain ⟨a', c', rfl⟩ := hw.form
         have hset2 := hset.onK (Kept.alloc (fun _ => False) W1 (.cells #[.int .u64 (M % 2 ^ 64 : Nat), .slice a' hs'.length c'] 28))
         have HSET := Lib.hid hset; have HSET2 := Lib.hid hset2; have HSB := Lib.hid hsb; have K1 := Lib.hid k1
         clear hset hset2 hsb hw hcan hnil
         generalize hs'.length = m' at *
         obtain ⟨lo, hlo⟩ : ∃ lo, lo = M % 2 ^ 64 := ⟨_, rfl⟩
         rw [← hlo] at HSET HSET2 HSB ⊢
         clear hlo k1))
      refine ⟨trivial, ?_⟩
      gi_at_call 27
      have KB : Kept (fun _ => False) W (W1.alloc (.cells #[.int .u64 lo, .slice a' m' c'] 28)) := K1.out.then (Kept.alloc _ _ _)
      have hLB2 : Libs (W1.alloc (.cells #[.int .u64 lo, .slice a' m' c'] 28)) := (HLW.out.at).kept KB
      refine (callsIn_wide.2 (text_any _ _ M HSET2.out hsm hLB2.tz hLB2.tabP)).mono ?_
      rintro e W3 ⟨rfl, k3⟩
      rw [HT.out]
      have b0 := (k3.cell (p := ⟨W1.heap.size, 0, none⟩) (by simp) (fun h => h)).trans (show (W1.alloc (.cells #[.int .u64 lo, .slice a' m' c'] 28)).cell? ⟨W1.heap.size, 0, none⟩ = some (.int .u64 lo) by go_simp)
      have b1 := (k3.cell (p := ⟨W1.heap.size, 1, none⟩) (by simp) (fun h => h)).trans (show (W1.alloc (.cells #[.int .u64 lo, .slice a' m' c'] 28)).cell? ⟨W1.heap.size, 1, none⟩ = some (.slice a' m' c') by go_simp)
      obtain ⟨c0, c1, c2, f0, f2, f1⟩ := res_cells HH0.out HH1.out (KB.then k3)
      rw [← HP1.out] at c2 f1
      have K3 := Lib.hid (KB.then k3); have SET3 := Lib.hid (HSET2.out.onK k3)
      clear k3 KB hLB2
      gi_wp2_with fail
      have hd := K3.out
      have o0 := (K3.out.block _ (Array.getElem?_eq_some_iff.1 HH0.out).1 (fun h => h)).trans HH0.out
      have o1 := (K3.out.block _ (Array.getElem?_eq_some_iff.1 HH1.out).1 (fun h => h)).trans HH1.out
      have oD := (K3.out.block _ hDW (fun h => h)).trans HKD.out
      have kw3 : Kept (fun k => w.heap.size ≤ k) w W3 := HW2.out.trans (HKW.out.trans K3.out (T := fun k => k = w.heap.size + 2) (fun _ _ h => h) (fun _ _ h => h.elim)) (fun _ _ h => h.elim) (fun _ _ h => by omega)
      obtain ⟨e1, e2, e3, e4, e5, e6⟩ := par_fin (.int .u64 lo) (.slice a' m' c') (.int .i64 0) HP1.out (by omega) oD o0 o1 kw3
      have hp1 := HP1.out
      refine ⟨by simp, .inl ⟨_, _, rfl, run_takeDeferred e1, ?_⟩⟩
      refine ⟨.tuple #[.agg #[.int .u64 lo, .slice a' m' c'], .int .i64 0], ?_, Or.inr ⟨_, M, HPS2.out, rfl, ?_, ?_⟩, e2⟩
      · rw [← hp1] at e6
        simp [results, Tryd.results25, go_sem, e4, e5, e6]
      · obtain ⟨hv, hs3, eq, hw3, hcan, hnil⟩ := SET3.out.ex
        refine ⟨⟨hv, hs3, eq, hw3.kept e3 (fun k hk h => ?_), hcan, hnil⟩⟩
        have hsb := HSB.out k ⟨_, _, eq, hk⟩
        omega
      · intro k hk
        have := HSB.out k hk
        omega
    · have hps := HPS.out
      rw [if_neg (by simpa using heq)] at hps
      obtain ⟨T, hTT⟩ : ∃ T : ByteArray, T = ⟨(textS M).toArray⟩ := ⟨_, rfl⟩
      have hb1 : (T.toList == s.toList) = false := by
        rw [beq_eq_false_iff_ne, Lib.toList_data, Lib.toList_data, hTT]
        exact heq
      have HT := Lib.hid hTT.symm
      have HPS2 := Lib.hid hps
      clear hT hps heq HPS hTT
      gi_wp2_with (first
      | (refine ⟨trivial, ?_⟩; gi_at_call 12; refine (callsIn_wide.2 (of_any W v xs HI.out)).mono ?_; rintro e W1 ⟨sv, rfl, hset, hsb, k1⟩
         rw [← HMM.out] at hset
         obtain ⟨hv, hs', rfl, hw, hcan, hnil⟩ := hset.ex
         obtain ⟨a', c', rfl⟩ := hw.form
         have hset2 := hset.onK (Kept.alloc (fun _ => False) W1 (.cells #[.int .u64 (M % 2 ^ 64 : Nat), .slice a' hs'.length c'] 28))
         have HSET := Lib.hid hset; have HSET2 := Lib.hid hset2; have HSB := Lib.hid hsb; have K1 := Lib.hid k1
         clear hset hset2 hsb hw hcan hnil
         generalize hs'.length = m' at *
         obtain ⟨lo, hlo⟩ : ∃ lo, lo = M % 2 ^ 64 := ⟨_, rfl⟩
         rw [← hlo] at HSET HSET2 HSB ⊢
         clear hlo k1))
      refine ⟨trivial, ?_⟩
      gi_at_call 27
      have KB : Kept (fun _ => False) W (W1.alloc (.cells #[.int .u64 lo, .slice a' m' c'] 28)) := K1.out.then (Kept.alloc _ _ _)
      have hLB2 : Libs (W1.alloc (.cells #[.int .u64 lo, .slice a' m' c'] 28)) := (HLW.out.at).kept KB
      refine (callsIn_wide.2 (text_any _ _ M HSET2.out hsm hLB2.tz hLB2.tabP)).mono ?_
      rintro e W3 ⟨rfl, k3⟩
      rw [HT.out]
      have b0 := (k3.cell (p := ⟨W1.heap.size, 0, none⟩) (by simp) (fun h => h)).trans (show (W1.alloc (.cells #[.int .u64 lo, .slice a' m' c'] 28)).cell? ⟨W1.heap.size, 0, none⟩ = some (.int .u64 lo) by go_simp)
      have b1 := (k3.cell (p := ⟨W1.heap.size, 1, none⟩) (by simp) (fun h => h)).trans (show (W1.alloc (.cells #[.int .u64 lo, .slice a' m' c'] 28)).cell? ⟨W1.heap.size, 1, none⟩ = some (.slice a' m' c') by go_simp)
      obtain ⟨c0, c1, c2, f0, f2, f1⟩ := res_cells HH0.out HH1.out (KB.then k3)
      rw [← HP1.out] at c2 f1
      have K3 := Lib.hid (KB.then k3); have SET3 := Lib.hid (HSET2.out.onK k3)
      clear k3 KB hLB2
      gi_wp2_with fail
      have o0 := (K3.out.block _ (Array.getElem?_eq_some_iff.1 HH0.out).1 (fun h => h)).trans HH0.out
      have o1 := (K3.out.block _ (Array.getElem?_eq_some_iff.1 HH1.out).1 (fun h => h)).trans HH1.out
      have oD := (K3.out.block _ hDW (fun h => h)).trans HKD.out
      have kw3 : Kept (fun k => w.heap.size ≤ k) w W3 := HW2.out.trans (HKW.out.trans K3.out (T := fun k => k = w.heap.size + 2) (fun _ _ h => h) (fun _ _ h => h.elim)) (fun _ _ h => h.elim) (fun _ _ h => by omega)
      obtain ⟨e1, e2, e3, e4, e5, e6⟩ := par_fin (.int .u64 0) (.slice none 0 0) (.int .i64 6) HP1.out (by omega) oD o0 o1 kw3
      have hp1 := HP1.out
      refine ⟨by simp, .inl ⟨_, _, rfl, run_takeDeferred e1, ?_⟩⟩
      refine ⟨.tuple #[.agg #[.int .u64 0, .slice none 0 0], .int .i64 6], ?_, Or.inl ⟨HPS2.out, rfl⟩, e2⟩
      rw [← hp1] at e6
      simp [results, Tryd.results25, go_sem, e4, e5, e6]
  case stop =>
    rintro D c pre W hD hpf ⟨rfl, ⟨x, hx, hf⟩, h0, h1, h2⟩ hK
    have hs2 := HS2.out
    have hg := grownBy_putObj' W D (.deferred none)
    have q0 := (hg.block _ (Array.getElem?_eq_some_iff.1 h0).1 (fun e => by injection e with e; omega)).trans h0
    have q1 := (hg.block _ (Array.getElem?_eq_some_iff.1 h1).1 (fun e => by injection e with e; omega)).trans h1
    have e4 := (cell_of (o := 0) q0 rfl).1
    have e5 := (cell_of (o := 1) q0 rfl).1
    have e6 := (cell_of (o := 0) q1 rfl).1
    have hps : parseS s = none := by
      unfold parseS
      rw [if_neg]
      intro hc
      simp only [Bool.and_eq_true, List.all_eq_true] at hc
      have := hc.1 x (hpf.subset hx)
      rw [hf] at this
      cases this
    have HPS := Lib.hid hps; have E6 := Lib.hid e6; clear hps e6
    gi_wp2
    have e6 := E6.out
    rw [← HP1.out] at e6
    refine ⟨by simp, .inl ⟨_, _, rfl, run_takeDeferred hK, ?_⟩⟩
    refine ⟨.tuple #[.agg #[.int .u64 0, .slice none 0 0], .int .i64 6], ?_, Or.inl ⟨HPS.out, rfl⟩, h2.trans (Kept.ofGrown (S := fun k => k = D) hg (fun k e => by injection e with e; exact e.symm)) (fun _ _ h => h) (fun i hi h => by omega)⟩
    simp [results, Tryd.results25, go_sem, e4, e5, e6]
end Go.Proofs.YteaagllpkcpedaaDoor
