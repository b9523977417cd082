import Derived.Test.YtjglnpijngdpkaaGreatDoorDySt
import Derived.Test.YtjglnpijngdpkaaGreatDoorDyPs
import Derived.Test.YtjglnpijngdpkaaGreatDoorDyTx
import Derived.Test.YtjglnpijngdpkaaGreatDoorDyMk
import Derived.Test.YtjglnpijngdpkaaGreatDoorDyFo
import Derived.Test.YtjglnpijngdpkaaGreatDoorBSeq
import Derived.Laws.Concat
/-
  days.Parse.
-/
namespace Go.Proofs.YtjglnpijngdpkaaGreatDoor
open Go.RowKit Go.Shelf
attribute [local go_sem] Oper.semAt_some
set_option linter.unusedSimpArgs false
set_option linter.unusedVariables false
set_option maxRecDepth 100000

/-- strings.SplitSeq: the comma, the text and a number in boxes; a function. -/
theorem splitseqD_any (w : World) (s : ByteArray) : Calls Tryz.prog 36 #[.string s, .string ⟨#[44]⟩] w fun e w' =>
    e = .returned (.func (.func 80) #[] #[.pointer (some ⟨w.heap.size + 1, 0, none⟩), .pointer (some ⟨w.heap.size, 0, none⟩), .pointer (some ⟨w.heap.size + 2, 0, none⟩)]) ∧
    w' = ((w.alloc (.cells #[.string s] 9)).alloc (.cells #[.string ⟨#[44]⟩] 9)).alloc (.cells #[.int .i64 0] 3) := by
  have H : Hid (∀ W : World, Calls Tryz.prog 62 #[.string s, .string ⟨#[44]⟩, .int .i64 0] W fun e w' =>
      e = .returned (.func (.func 80) #[] #[.pointer (some ⟨W.heap.size + 1, 0, none⟩), .pointer (some ⟨W.heap.size, 0, none⟩), .pointer (some ⟨W.heap.size + 2, 0, none⟩)]) ∧
      w' = ((W.alloc (.cells #[.string s] 9)).alloc (.cells #[.string ⟨#[44]⟩] 9)).alloc (.cells #[.int .i64 0] 3)) := Lib.hid fun W => by
    go_enter Tryz.func62, Tryz.ntmps62
    go_wp2_with fail
    go_ret
    exact ⟨rfl, rfl⟩
  go_enter Tryz.func36, Tryz.ntmps36
  go_wp2_with fail
  refine (H.out _).mono ?_
  rintro e w' ⟨rfl, rfl⟩
  go_wp2_with fail
  go_ret
  exact ⟨rfl, rfl⟩

theorem keepM_below {S : Nat → Prop} {M B : Nat} {a b : World} (h : KeepM S M a b) (hM : B ≤ M) (hB : B ≤ a.heap.size) (hS : ∀ k, k < B → ¬ S k) : Below B a b :=
  ⟨h.os, h.tape, h.output, h.size, fun k hk => h.block k (by omega) (by omega) (hS k hk)⟩
theorem keptD_from {a b : World} (h : Kept (fun _ => False) a b) (B : Nat) : KeepsFrom B a b := ⟨h.size, fun k _ _ hk _ => (h.block k (Array.getElem?_eq_some_iff.1 hk).1 (fun h => h)).trans hk⟩
theorem keptD_keepM {a b : World} (h : Kept (fun _ => False) a b) (S : Nat → Prop) (M : Nat) : KeepM S M a b := ⟨h.os, h.tape, h.output, h.size, fun k _ h2 _ => h.block k h2 (fun h => h)⟩
theorem setD_other {W : World} {b k : Nat} {o : Nat} (x : Value) (hn : k ≠ b) : (W.setCell ⟨b, o, none⟩ x).heap[k]? = W.heap[k]? := by
  have h2 : b ≠ k := fun e => hn e.symm
  simp [World.setCell, Array.getElem?_modify, h2]
theorem setD_one {W : World} {b : Nat} {t : TypeId} {x : Value} (h : W.heap[b]? = some (.cells #[x] t (0, 0))) (x' : Value) : (W.setCell ⟨b, 0, none⟩ x').heap[b]? = some (.cells #[x'] t (0, 0)) := by
  simp [World.setCell, Array.getElem?_modify, h]
theorem boxedD_on {a b : World} {B : Nat} {t : TypeId} {v : Value} (h : Boxed a B t v) (hk : Kept (fun _ => False) a b) : Boxed b B t v := (hk.block B h.lt (fun h => h)).trans h
theorem cellD_of {W : World} {b : Nat} {v : Value} {t : TypeId} (h : W.heap[b]? = some (.cells #[v] t (0, 0))) : W.cell? ⟨b, 0, none⟩ = some v ∧ W.frozen? ⟨b, 0, none⟩ = false := by
  simp [World.cell?, World.frozen?, h]

/-- The end of the call: the results in their boxes, the deferred list taken. -/
theorem paD_fin {w W3 : World} {D p1 : Nat} (x e : Value) (hp1 : p1 = w.heap.size + 1) (hD : w.heap.size + 2 ≤ D) (hDW : W3.heap[D]? = some (.deferred (some [])))
    (o0 : W3.heap[w.heap.size]? = some (.cells #[.slice none 0 0] 26 (0, 0))) (o1 : W3.heap[w.heap.size + 1]? = some (.cells #[.int .i64 0] 32 (0, 0))) (hk : Kept (fun k => w.heap.size ≤ k) w W3) :
    ((W3.setCell ⟨w.heap.size, 0, none⟩ x).setCell ⟨p1, 0, none⟩ e).heap[D]? = some (.deferred (some [])) ∧
    Kept (fun _ => False) w (((W3.setCell ⟨w.heap.size, 0, none⟩ x).setCell ⟨p1, 0, none⟩ e).putObj D (.deferred none)) ∧
    (((W3.setCell ⟨w.heap.size, 0, none⟩ x).setCell ⟨p1, 0, none⟩ e).putObj D (.deferred none)).cell? ⟨w.heap.size, 0, none⟩ = some x ∧
    (((W3.setCell ⟨w.heap.size, 0, none⟩ x).setCell ⟨p1, 0, none⟩ e).putObj D (.deferred none)).cell? ⟨w.heap.size + 1, 0, none⟩ = some e := by
  subst hp1
  have q0 : ((W3.setCell ⟨w.heap.size, 0, none⟩ x).setCell ⟨w.heap.size + 1, 0, none⟩ e).heap[w.heap.size]? = some (.cells #[x] 26 (0, 0)) := by
    rw [setD_other _ (by omega)]; exact setD_one o0 _
  have q1 : ((W3.setCell ⟨w.heap.size, 0, none⟩ x).setCell ⟨w.heap.size + 1, 0, none⟩ e).heap[w.heap.size + 1]? = some (.cells #[e] 32 (0, 0)) := by
    refine setD_one (x := .int .i64 0) ?_ _
    rw [setD_other _ (by omega)]; exact o1
  have qD : ((W3.setCell ⟨w.heap.size, 0, none⟩ x).setCell ⟨w.heap.size + 1, 0, none⟩ e).heap[D]? = some (.deferred (some [])) := by
    rw [setD_other _ (by omega), setD_other _ (by omega)]; exact hDW
  have KS : Kept (fun k => k = w.heap.size ∨ k = w.heap.size + 1 ∨ k = D) W3 ((W3.setCell ⟨w.heap.size, 0, none⟩ x).setCell ⟨w.heap.size + 1, 0, none⟩ e) :=
    (Kept.setCell _ W3 ⟨w.heap.size, 0, none⟩ x (Or.inl rfl)).trans (Kept.setCell _ _ ⟨w.heap.size + 1, 0, none⟩ e (Or.inr (Or.inl rfl))) (fun _ _ h => h) (fun _ _ h => h)
  generalize (W3.setCell ⟨w.heap.size, 0, none⟩ x).setCell ⟨w.heap.size + 1, 0, none⟩ e = WF at *
  have hg := grownBy_putObj' WF D (.deferred none)
  have r0 := (hg.block _ (Array.getElem?_eq_some_iff.1 q0).1 (fun e => by injection e with e; omega)).trans q0
  have r1 := (hg.block _ (Array.getElem?_eq_some_iff.1 q1).1 (fun e => by injection e with e; omega)).trans q1
  have KP : Kept (fun k => k = w.heap.size ∨ k = w.heap.size + 1 ∨ k = D) W3 (WF.putObj D (.deferred none)) := KS.trans (Kept.ofGrown (S := fun k => k = D) hg (fun k e => by injection e with e; exact e.symm)) (fun _ _ h => h) (fun _ _ h => Or.inr (Or.inr h))
  exact ⟨qD, hk.trans KP (fun i hi h => by omega) (fun i hi h => by omega), (cellD_of r0).1, (cellD_of r1).1⟩
theorem setD_same {a b : World} {v : Value} {t : List Int} (h : SetD a v t) (hs : a.heap.size ≤ b.heap.size) (hc : ∀ g o n, a.cell? ⟨g, o, none⟩ = some (.int .i64 n) → b.cell? ⟨g, o, none⟩ = some (.int .i64 n)) : SetD b v t := by
  obtain ⟨row, rfl, hr, hcn⟩ := h
  refine ⟨row, rfl, ?_, hcn⟩
  rcases hr with h | ⟨g, off, cap, rfl, h1, h2, h3, h4⟩
  · exact Or.inl h
  · refine Or.inr ⟨g, off, cap, rfl, h1, h2, Nat.lt_of_lt_of_le h3 hs, fun i hi j u hu => ?_⟩
    have hcell := h4 i hi j u hu
    have hm := List.mem_of_getElem? hu
    simp only [EI, List.mem_singleton] at hm
    subst hm
    exact hc _ _ _ hcell
/-- The numbers of a set stand as they stood. -/
theorem paD_ints0 {w W3 : World} (x : Value)
    (o0 : W3.heap[w.heap.size]? = some (.cells #[.slice none 0 0] 26 (0, 0))) (o1 : W3.heap[w.heap.size + 1]? = some (.cells #[.int .i64 0] 32 (0, 0))) (g o : Nat) (n : Int) (h : W3.cell? ⟨g, o, none⟩ = some (.int .i64 n)) :
    ((W3.setCell ⟨w.heap.size, 0, none⟩ x).setCell ⟨w.heap.size + 1, 0, none⟩ (.int .i64 0)).cell? ⟨g, o, none⟩ = some (.int .i64 n) := by
  have g0 : g ≠ w.heap.size := fun e => by
    subst e
    cases o with
    | zero => simp [World.cell?, o0] at h
    | succ o => simp [World.cell?, o0] at h
  by_cases g1 : g = w.heap.size + 1
  · subst g1
    have hb : ((W3.setCell ⟨w.heap.size, 0, none⟩ x).setCell ⟨w.heap.size + 1, 0, none⟩ (.int .i64 0)).heap[w.heap.size + 1]? = W3.heap[w.heap.size + 1]? := by
      rw [o1]
      refine setD_one (x := .int .i64 0) ?_ _
      rw [setD_other _ (by omega)]; exact o1
    exact (World.cell?_of_block hb).trans h
  · have hb : ((W3.setCell ⟨w.heap.size, 0, none⟩ x).setCell ⟨w.heap.size + 1, 0, none⟩ (.int .i64 0)).heap[g]? = W3.heap[g]? := by
      rw [setD_other _ g1, setD_other _ g0]
    exact (World.cell?_of_block hb).trans h
theorem paD_ints {w W3 : World} {D p1 : Nat} (x : Value) (hp1 : p1 = w.heap.size + 1) (hDW : W3.heap[D]? = some (.deferred (some [])))
    (o0 : W3.heap[w.heap.size]? = some (.cells #[.slice none 0 0] 26 (0, 0))) (o1 : W3.heap[w.heap.size + 1]? = some (.cells #[.int .i64 0] 32 (0, 0))) (g o : Nat) (n : Int) (h : W3.cell? ⟨g, o, none⟩ = some (.int .i64 n)) :
    (((W3.setCell ⟨w.heap.size, 0, none⟩ x).setCell ⟨p1, 0, none⟩ (.int .i64 0)).putObj D (.deferred none)).cell? ⟨g, o, none⟩ = some (.int .i64 n) := by
  subst hp1
  have gD : g ≠ D := fun e => by subst e; simp [World.cell?, hDW] at h
  have hD := paD_ints0 x o0 o1 g o n h
  generalize (W3.setCell ⟨w.heap.size, 0, none⟩ x).setCell ⟨w.heap.size + 1, 0, none⟩ (.int .i64 0) = WF at *
  exact (World.cell?_of_block (World.putObj_heap_other gD)).trans hD
theorem splitC_len (c : UInt8) : ∀ l : List UInt8, (splitC c l).length ≤ l.length + 1
  | [] => by simp [splitC]
  | x :: l => by
    have ih := splitC_len c l
    unfold splitC
    split
    · simp; omega
    · split
      · simp
      · rename_i w r h
        rw [h] at ih
        simp at ih ⊢; omega

theorem new1P (w : World) (x : Value) (T : TypeId) : (w.alloc (.cells #[x] T)).cell? ⟨w.heap.size, 0, none⟩ = some x := by go_simp
theorem lit2D (W : World) (x y : Value) (T : TypeId) (j : Nat) (u : Value) (h : [x, y][j]? = some u) : (W.alloc (.cells #[x, y] T)).cell? ((⟨W.heap.size, 0, none⟩ : Addr).add j) = some u := by
  have hadd : (⟨W.heap.size, 0, none⟩ : Addr).add j = ⟨W.heap.size, j, none⟩ := by unfold Addr.add; split <;> simp_all
  rw [hadd]
  match j, h with
  | 0, h => simp at h; subst h; go_simp
  | 1, h => simp at h; subst h; go_simp
  | j + 2, h => simp at h
theorem lit3D (W : World) (o : Obj) (x y : Value) (T : TypeId) (j : Nat) (u : Value) (h : [x, y][j]? = some u) : ((W.alloc o).alloc (.cells #[x, y] T)).cell? ((⟨W.heap.size + 1, 0, none⟩ : Addr).add j) = some u := by
  have := lit2D (W.alloc o) x y T j u h
  rwa [World.size_alloc] at this

/-- The iterator's contract, for whoever keeps what it reads. -/
theorem split_stops (S : Nat → Prop) (M' B1 B2 B3 : Nat) (s : ByteArray) (w : World) (hA : PtAt w B1 B2 B3 s) (hs : s.size ≤ 1000000) (h12 : B1 ≠ B2) (h32 : B3 ≠ B2) (h1 : B1 < M') (h2 : B2 < M') (h3 : B3 < M') (n1 : ¬ S B1) (n2 : ¬ S B2) (n3 : ¬ S B3) :
    SeqStopsC 2 Tryz.prog 80 #[.pointer (some ⟨B1, 0, none⟩), .pointer (some ⟨B2, 0, none⟩), .pointer (some ⟨B3, 0, none⟩)] (fun x : PtB => #[Value.string x.1]) B2 (KeepM S M') (fun ys => ys.map PtB.l = splitC 44 s.data.toList) (fun pre => pre.map PtB.l <+: splitC 44 s.data.toList) (splitC 44 s.data.toList).length w := by
  intro l J Jx W hW hJ hJc hY h0
  refine spl1_in l B1 B2 B3 s (KeepM S M') J Jx W hs h12 h32 (fun pre x A h1 h2 => hY pre x A h1 h2) (fun a b r hk ha => ?_) (fun a b hk => hk.size) hJ hJc (hA.on (Kept.ofBelow _ hW)) h0
  exact ha.blocks (hk.block _ h1 (World.block_lt_of_cell? a _ ha.c1) n1) (hk.block _ h2 (World.block_lt_of_cell? a _ ha.c2) n2) (hk.block _ h3 (World.block_lt_of_cell? a _ ha.c3) n3)

/-- The spans that the first parts say. -/
def spsP (pre : List PtB) : List (Int × Int) := pre.filterMap fun x => spanV x.l
/-- What the loop writes: the box of its row, what is left of the text. -/
def PaS (w : World) (k : Nat) : Prop := k = w.heap.size + 2 ∨ k = w.heap.size + 3
/-- What the loop holds: the spans so far, in a row of its own behind the variable. -/
def PaI (w w2 : World) (pre : List PtB) (W : World) : Prop :=
  (∀ x ∈ pre, (spanV x.l).isSome = true) ∧ (∃ v, Boxed W (w.heap.size + 2) 46 v ∧ OwnG ESp 49 0 W v (spsP pre) ∧ (∀ k, v.ownBlock = some k → w2.heap.size ≤ k)) ∧ KeepM (PaS w) w2.heap.size w2 W
/-- How it is left early. -/
def PaX (w : World) (pre : List PtB) (W : World) : Prop :=
  (∃ x ∈ pre, spanV x.l = none) ∧ W.heap[w.heap.size]? = some (.cells #[.slice none 0 0] 26 (0, 0)) ∧ W.heap[w.heap.size + 1]? = some (.cells #[.int .i64 6] 32 (0, 0)) ∧ Kept (fun _ => False) w W

set_option maxHeartbeats 6400000 in
theorem pparseD_own (w : World) (s : ByteArray) (hs : s.size ≤ 1000000) (hq : (splitC 44 s.data.toList).length ≤ 15001) (hL : LibD w) :
    Calls Tryz.prog 10 #[.string s] w fun e w' => ∃ (v : Value) (E : Int), e = .returned (.tuple #[v, .int .i64 E]) ∧ Kept (fun _ => False) w w' ∧
      ((E = 0 ∧ ∃ t, SetD w' v t ∧ textD t = s.data.toList ∧ NewV w v) ∨ (E = 6 ∧ v = .agg #[.slice none 0 0] ∧ ∀ t, CanD t → textD t ≠ s.data.toList)) := by
  by_cases hno : s = ⟨#[110, 111, 110, 101]⟩
  · subst hno
    have HK := Lib.hid ((Kept.alloc (fun _ => False) w (.cells #[.slice none 0 0] 26)).then (Kept.alloc (fun _ => False) _ (.cells #[.int .i64 0] 32)))
    clear hL hs hq
    go_enter Tryz.func10, Tryz.ntmps10
    go_wp2_with fail
    refine bodyPost_ret (v := .tuple #[.agg #[.slice none 0 0], .int .i64 0]) (by simp [results, Tryz.results10, go_sem]) rfl ⟨_, _, rfl, HK.out, Or.inl ⟨rfl, [], ⟨_, rfl, Or.inl ⟨rfl, rfl⟩, CanD.nil⟩, rfl, newV_nil _ _ _⟩⟩
  by_cases hall : s = ⟨#[97, 108, 108]⟩
  · subst hall
    have HK := Lib.hid ((Kept.alloc (fun _ => False) w (.cells #[.slice none 0 0] 26)).then (Kept.alloc (fun _ => False) _ (.cells #[.int .i64 0] 32)))
    have HA := Lib.hid (fun W => allD_own W)
    clear hL hs hno hq
    go_enter Tryz.func10, Tryz.ntmps10
    go_wp2_with fail
    refine (HA.out _).mono ?_
    rintro e w1 ⟨v, rfl, hset, hnw, k1⟩
    obtain ⟨row, rfl, hr, hcn⟩ := hset
    obtain ⟨a, c, rfl, _, _⟩ := hr.form
    rw [show allD.length = 2 from rfl] at hnw ⊢
    have HNW := Lib.hid (hnw.low (a := w) (by simp; omega))
    clear hnw
    have o0 : w1.heap[w.heap.size]? = some (.cells #[.slice none 0 0] 26 (0, 0)) := by
      refine (k1.block _ (by simp; omega) (fun h => h)).trans ((Below.heap_alloc _ _ _ (by simp)).trans (heap_alloc_new w _))
    have o1 : w1.heap[w.heap.size + 1]? = some (.cells #[.int .i64 0] 32 (0, 0)) := by
      have h9 := heap_alloc_new (w.alloc (.cells #[.slice none 0 0] 26)) (.cells #[.int .i64 0] 32)
      rw [show (w.alloc (.cells #[.slice none 0 0] 26)).heap.size = w.heap.size + 1 by simp] at h9
      exact (k1.block _ (by simp) (fun h => h)).trans h9
    obtain ⟨c0, f0⟩ := cellD_of o0
    obtain ⟨c1, f1⟩ := cellD_of o1
    have HO0 := Lib.hid o0; have HO1 := Lib.hid o1; have HR := Lib.hid hr; have HKK := Lib.hid (HK.out.then k1)
    clear o0 o1 hr k1
    have q0 : ((w1.setCell ⟨w.heap.size, 0, none⟩ (.slice a 2 c)).setCell ⟨w.heap.size + 1, 0, none⟩ (.int .i64 0)).heap[w.heap.size]? = some (.cells #[.slice a 2 c] 26 (0, 0)) := by
      rw [setD_other _ (by omega)]; exact setD_one HO0.out _
    have q1 : ((w1.setCell ⟨w.heap.size, 0, none⟩ (.slice a 2 c)).setCell ⟨w.heap.size + 1, 0, none⟩ (.int .i64 0)).heap[w.heap.size + 1]? = some (.cells #[.int .i64 0] 32 (0, 0)) := by
      refine setD_one (x := .int .i64 0) ?_ _
      rw [setD_other _ (by omega)]; exact HO1.out
    obtain ⟨e0, _⟩ := cellD_of q0
    obtain ⟨e1, _⟩ := cellD_of q1
    have KS : Kept (fun k => w.heap.size ≤ k) w1 ((w1.setCell ⟨w.heap.size, 0, none⟩ (.slice a 2 c)).setCell ⟨w.heap.size + 1, 0, none⟩ (.int .i64 0)) :=
      (Kept.setCell (fun k => w.heap.size ≤ k) w1 ⟨w.heap.size, 0, none⟩ _ (Nat.le_refl _)).trans (Kept.setCell (fun k => w.heap.size ≤ k) _ ⟨w.heap.size + 1, 0, none⟩ _ (Nat.le_succ _)) (fun _ _ h => h) (fun _ _ h => h)
    have HFIN := Lib.hid (HKK.out.trans KS (T := fun _ => False) (fun _ _ h => h) (fun i hi h => by omega))
    have hset := setD_same (a := w1) (b := (w1.setCell ⟨w.heap.size, 0, none⟩ (.slice a 2 c)).setCell ⟨w.heap.size + 1, 0, none⟩ (.int .i64 0)) ⟨_, rfl, HR.out, hcn⟩ (by simp) (paD_ints0 (.slice a 2 c) HO0.out HO1.out)
    have HSE := Lib.hid hset
    clear q0 q1 KS hset
    go_wp2_with fail
    refine bodyPost_ret (v := .tuple #[.agg #[.slice a 2 c], .int .i64 0]) (by simp [results, Tryz.results10, go_sem, e0, e1]) rfl ⟨_, _, rfl, HFIN.out, Or.inl ⟨rfl, allD, HSE.out, rfl, HNW.out⟩⟩
  have hno' : s.data.toList ≠ noneB := fun e => hno (by
    obtain ⟨⟨l⟩⟩ := s
    show (⟨⟨l⟩⟩ : ByteArray) = ⟨⟨_⟩⟩
    have : l = noneB := e
    rw [this]; rfl)
  have hall' : s.data.toList ≠ allB := fun e => hall (by
    obtain ⟨⟨l⟩⟩ := s
    show (⟨⟨l⟩⟩ : ByteArray) = ⟨⟨_⟩⟩
    have : l = allB := e
    rw [this]; rfl)
  have hnob : (s.toList == [110, 111, 110, 101]) = false := by rw [ByteArray.toList_eq, beq_eq_false_iff_ne]; exact hno'
  have hallb : (s.toList == [97, 108, 108]) = false := by rw [ByteArray.toList_eq, beq_eq_false_iff_ne]; exact hall'
  have HNO := Lib.hid hno'; have HALL := Lib.hid hall'
  clear hno' hall'
  refine (callsIn_wide (n := 3)).1 ?_
  obtain ⟨i0, hi, hz0, hz1, hz2⟩ := info_parts info_span
  refine callsIn_of_wp_marks Tryz.func10 rfl trivial ?_ rfl
  simp only [Tryz.ntmps10, List.size_toArray, List.length_cons, List.length_nil, Nat.reduceAdd, Nat.reduceSub, Array.replicate_succ, Array.replicate_zero, List.push_toArray, List.append_toArray, List.nil_append, List.cons_append]
  gi_wp2_with (first
    | (refine ⟨trivial, ?_⟩; gi_at_call 36; refine (callsIn_wide.2 (splitseqD_any _ _)).mono ?_; rintro e w2 ⟨rfl, hw2⟩))
  have KA : Kept (fun _ => False) w (((w.alloc (.cells #[.slice none 0 0] 26)).alloc (.cells #[.int .i64 0] 32)).alloc (.cells #[.slice none 0 0] 46)) := ((Kept.alloc _ _ _).then (Kept.alloc _ _ _)).then (Kept.alloc _ _ _)
  have hk2 : Kept (fun _ => False) w w2 := by rw [hw2]; exact ((KA.then (Kept.alloc _ _ _)).then (Kept.alloc _ _ _)).then (Kept.alloc _ _ _)
  have hs2 : w2.heap.size = w.heap.size + 6 := by rw [hw2]; simp
  have hB2 : Boxed w2 (w.heap.size + 2) 46 (.slice none 0 0) := by
    have h9 := ((Boxed.new ((w.alloc (.cells #[.slice none 0 0] 26)).alloc (.cells #[.int .i64 0] 32)) 46 (.slice none 0 0)).alloc (.cells #[.string s] 9)).alloc (.cells #[.string ⟨#[44]⟩] 9) |>.alloc (.cells #[.int .i64 0] 3)
    rw [hw2]
    simpa using h9
  have hR0 : w2.heap[w.heap.size]? = some (.cells #[.slice none 0 0] 26 (0, 0)) := by
    have h9 := heap_alloc_new w (.cells #[.slice none 0 0] 26)
    have h8 : Kept (fun _ => False) (w.alloc (.cells #[.slice none 0 0] 26)) w2 := by
      rw [hw2]; exact ((((Kept.alloc _ _ _).then (Kept.alloc _ _ _)).then (Kept.alloc _ _ _)).then (Kept.alloc _ _ _)).then (Kept.alloc _ _ _)
    exact (h8.block _ (by simp) (fun h => h)).trans h9
  have hR1 : w2.heap[w.heap.size + 1]? = some (.cells #[.int .i64 0] 32 (0, 0)) := by
    have h9 := heap_alloc_new (w.alloc (.cells #[.slice none 0 0] 26)) (.cells #[.int .i64 0] 32)
    rw [show (w.alloc (.cells #[.slice none 0 0] 26)).heap.size = w.heap.size + 1 by simp] at h9
    have h8 : Kept (fun _ => False) ((w.alloc (.cells #[.slice none 0 0] 26)).alloc (.cells #[.int .i64 0] 32)) w2 := by
      rw [hw2]; exact (((Kept.alloc _ _ _).then (Kept.alloc _ _ _)).then (Kept.alloc _ _ _)).then (Kept.alloc _ _ _)
    exact (h8.block _ (by simp) (fun h => h)).trans h9
  have hPT : PtAt w2 (w.heap.size + 4) (w.heap.size + 3) (w.heap.size + 5) s := by
    have e3 : (((w.alloc (.cells #[.slice none 0 0] 26)).alloc (.cells #[.int .i64 0] 32)).alloc (.cells #[.slice none 0 0] 46)).heap.size = w.heap.size + 3 := by simp
    generalize (((w.alloc (.cells #[.slice none 0 0] 26)).alloc (.cells #[.int .i64 0] 32)).alloc (.cells #[.slice none 0 0] 46)) = A3 at hw2 e3
    have b3 : w2.heap[w.heap.size + 3]? = some (.cells #[.string s] 9 (0, 0)) := by
      have h9 := heap_alloc_new A3 (.cells #[.string s] 9)
      rw [e3] at h9
      have h8 : Kept (fun _ => False) (A3.alloc (.cells #[.string s] 9)) w2 := by rw [hw2]; exact (Kept.alloc _ _ _).then (Kept.alloc _ _ _)
      exact (h8.block _ (by simp; omega) (fun h => h)).trans h9
    have b4 : w2.heap[w.heap.size + 4]? = some (.cells #[.string ⟨#[44]⟩] 9 (0, 0)) := by
      have h9 := heap_alloc_new (A3.alloc (.cells #[.string s] 9)) (.cells #[.string ⟨#[44]⟩] 9)
      rw [show (A3.alloc (.cells #[.string s] 9)).heap.size = w.heap.size + 4 by simp [e3]] at h9
      have h8 : Kept (fun _ => False) ((A3.alloc (.cells #[.string s] 9)).alloc (.cells #[.string ⟨#[44]⟩] 9)) w2 := by rw [hw2]; exact Kept.alloc _ _ _
      exact (h8.block _ (by simp; omega) (fun h => h)).trans h9
    have b5 : w2.heap[w.heap.size + 5]? = some (.cells #[.int .i64 0] 3 (0, 0)) := by
      have h9 := heap_alloc_new ((A3.alloc (.cells #[.string s] 9)).alloc (.cells #[.string ⟨#[44]⟩] 9)) (.cells #[.int .i64 0] 3)
      rw [show ((A3.alloc (.cells #[.string s] 9)).alloc (.cells #[.string ⟨#[44]⟩] 9)).heap.size = w.heap.size + 5 by simp [e3]] at h9
      rw [hw2]; exact h9
    exact ⟨(cellD_of b4).1, (cellD_of b3).1, (cellD_of b3).2, (cellD_of b5).1⟩
  have hlB : LibDB w.heap.size w2 := hL.toB.on (hk2.below (Nat.le_refl _) (fun _ h => h.elim))
  have hS := split_stops (fun k => k = w.heap.size + 2) w2.heap.size (w.heap.size + 4) (w.heap.size + 3) (w.heap.size + 5) s w2 hPT (by omega) (by omega) (by omega) (by omega) (by omega) (by omega) (by omega) (by omega) (by omega)
  rw [← hw2]
  have HW2 := Lib.hid hk2; have HB2 := Lib.hid hB2; have HR0 := Lib.hid hR0; have HR1 := Lib.hid hR1; have HLB := Lib.hid hlB; have HS2 := Lib.hid hs2
  clear hw2 KA hB2 hR0 hR1 hk2 hlB hPT
  obtain ⟨q1, hq1⟩ : ∃ q1, q1 = w.heap.size + 1 + 1 + 1 + 1 := ⟨_, rfl⟩
  obtain ⟨q2, hq2⟩ : ∃ q2, q2 = w.heap.size + 1 + 1 + 1 + 2 := ⟨_, rfl⟩
  obtain ⟨q0, hq0⟩ : ∃ q0, q0 = w.heap.size + 1 + 1 + 1 := ⟨_, rfl⟩
  obtain ⟨p2, hp2⟩ : ∃ p2, p2 = w.heap.size + 1 + 1 := ⟨_, rfl⟩
  obtain ⟨p1, hp1⟩ : ∃ p1, p1 = w.heap.size + 1 := ⟨_, rfl⟩
  rw [← hq1, ← hq2, ← hq0, ← hp2, ← hp1]
  rw [show w.heap.size + 4 = q1 by omega, show w.heap.size + 3 = q0 by omega, show w.heap.size + 5 = q2 by omega] at hS
  have HP1 := Lib.hid hp1; have HP2 := Lib.hid hp2; have HQ0 := Lib.hid hq0
  clear hp1 hp2 hq1 hq2 hq0
  refine wpIn_rangeFunc_ownC (B := q0) (by omega) (gf := 80) (lb := #[.pointer (some ⟨q1, 0, none⟩), .pointer (some ⟨q0, 0, none⟩), .pointer (some ⟨q2, 0, none⟩)]) rfl (enters_of Tryz.func80 (by kernel_rfl) rfl) (by have := HQ0.out; have := HS2.out; omega)
    hS KeepM.trans (fun W l o o' hl h h1 h2 => KeepM.putB W l o o' hl h h1 h2) (Below.refl _ _) (fun _ => rfl)
    (fun pre W => PaI w w2 pre W) (fun c pre W => c = .ret ∧ PaX w pre W) ?own ?cut ?ownx
    ⟨fun x hx => by simp at hx, ⟨_, HB2.out, OwnG.nil _ _ _, fun k hk => by cases hk⟩, KeepM.refl _ _ _⟩
    (fun x => { tmps := #[.string s, undef, .pointer (some ⟨w.heap.size, 0, none⟩), .pointer (some ⟨p1, 0, none⟩), .pointer (some ⟨p2, 0, none⟩), .string x.1, undef, undef, undef, undef, .string s, .bool false, .bool false, undef, .bool false, .bool false, undef, .string s,
      .func (.func 80) #[] #[.pointer (some ⟨q1, 0, none⟩), .pointer (some ⟨q0, 0, none⟩), .pointer (some ⟨q2, 0, none⟩)], .string x.1, undef, undef, undef, undef, undef, undef, undef, undef, undef, undef, undef, undef, undef, undef, undef, undef, undef, undef, undef, undef, undef, undef, undef, undef, undef, undef, undef, undef, undef, undef, undef, undef], defers := [] }) ?assign ?body ?done ?stop
  case own =>
    rintro q W W' row ⟨h1, ⟨v, hb, hr, ha⟩, hm⟩ hg hr'
    have := (holdsRow_own 0 (w.heap.size + 2) 46 49 ESp.z (fun q : List PtB => (spsP q).length) (fun q : List PtB => flatG ESp (spsP q)) (fun _ v => ∀ k, v.ownBlock = some k → w2.heap.size ≤ k)).from w2.heap.size q W W' row
    exact ⟨h1, this ⟨v, hb, hr, ha⟩ hg hr', hm.trans (KeepM.grown hg (fun r e => Or.inl (hr' r e).1))⟩
  case cut =>
    rintro pre A v ⟨h1, ⟨u, hb, hr, ha⟩, hm⟩
    have hs2 := HS2.out; have hq := HQ0.out
    refine ⟨h1, ⟨u, ?_, ?_, ha⟩, hm.trans (KeepM.grown (grownBy_setCell' A q0 v) (fun r e => by cases e; exact Or.inr (Or.inr (by omega))))⟩
    · exact (setD_other v (by omega)).trans hb
    · exact (Kept.setCell (fun k => k = q0) A ⟨q0, 0, none⟩ v rfl).owns hr (fun k hk e => by have := ha k hk; omega)
  case ownx =>
    rintro c q W W' row ⟨hc, h1, h2, h3, h4⟩ hg hr
    have hs2 := HS2.out
    have hl0 := (Array.getElem?_eq_some_iff.1 h2).1
    have hl1 := (Array.getElem?_eq_some_iff.1 h3).1
    refine ⟨hc, h1, (hg.block _ hl0 (fun e => ?_)).trans h2, (hg.block _ hl1 (fun e => ?_)).trans h3, h4.trans (Kept.ofGrown (S := fun k => w2.heap.size ≤ k) hg (fun k e => (hr k e).1)) (fun _ _ h => h) (fun i hi h => by omega)⟩
    · have := (hr _ e.symm).1; omega
    · have := (hr _ e.symm).1; omega
  case assign =>
    intro l x W K hK
    gi_wp2
    exact hK
  case body =>
    rintro l pre ⟨xb, hxs⟩ W ⟨h1, ⟨v, hb, hr, hra⟩, hm⟩ hlt
    have hs2 := HS2.out
    have hms := hm.size
    have hp1 := HP1.out; have hp2 := HP2.out; have hq0 := HQ0.out
    have hbw : Below w.heap.size w2 W := keepM_below hm (by omega) (by omega) (fun k h1 h2 => by unfold PaS at h2; omega)
    have hLW := (HLB.out.on hbw).at
    have hn : (spsP pre).length ≤ 15001 := Nat.le_trans (List.length_filterMap_le _ _) (by omega)
    obtain ⟨a, c, rfl, _, _⟩ := hr.form
    have hc : W.cell? ⟨p2, 0, none⟩ = some (.slice a (spsP pre).length c) := by rw [hp2]; exact hb.cell
    have h0o := (hm.block w.heap.size (by omega) (by omega) (by unfold PaS; omega)).trans HR0.out
    have h1o := (hm.block (w.heap.size + 1) (by omega) (by omega) (by unfold PaS; omega)).trans HR1.out
    rw [← hp1] at h1o
    have hspn : spsP (pre ++ [(⟨xb, hxs⟩ : PtB)]) = spsP pre ++ (match spanV xb.data.toList with | some p => [p] | none => []) := by
      unfold spsP
      rw [List.filterMap_append]
      congr 1
      cases hvv : spanV xb.data.toList <;> simp [PtB.l, hvv]
    rcases hv : spanV xb.data.toList with _ | ⟨px, py⟩
    · have HPN : Hid (Calls Tryz.prog 37 #[.string xb] W fun e w' => ∃ x y : Int, e = .returned (.tuple #[.agg #[.int .i64 x, .int .i64 y], .bool false]) ∧ Kept (fun _ => False) W w') := Lib.hid ((pspanD_any xb hxs W hLW).mono fun e w' ⟨x, y, ok, he, hk, hc⟩ => by
        rcases hc with ⟨_, h⟩ | ⟨rfl, _⟩
        · rw [hv] at h; cases h
        · exact ⟨x, y, he, hk⟩)
      have HX : Hid (∀ W3, Kept (fun _ => False) W W3 → KeepsFrom w2.heap.size W ((W3.setCell ⟨w.heap.size, 0, none⟩ (.slice none 0 0)).setCell ⟨p1, 0, none⟩ (.int .i64 6)) ∧ PaX w (pre ++ [(⟨xb, hxs⟩ : PtB)]) ((W3.setCell ⟨w.heap.size, 0, none⟩ (.slice none 0 0)).setCell ⟨p1, 0, none⟩ (.int .i64 6))) := Lib.hid fun W3 k3 => by
        have l3 := k3.size
        have o0 := (k3.block _ (Array.getElem?_eq_some_iff.1 h0o).1 (fun h => h)).trans h0o
        have o1 := (k3.block _ (Array.getElem?_eq_some_iff.1 h1o).1 (fun h => h)).trans h1o
        have KS : Kept (fun k => k = w.heap.size ∨ k = p1) W3 ((W3.setCell ⟨w.heap.size, 0, none⟩ (.slice none 0 0)).setCell ⟨p1, 0, none⟩ (.int .i64 6)) :=
          (Kept.setCell (fun k => k = w.heap.size ∨ k = p1) W3 ⟨w.heap.size, 0, none⟩ _ (Or.inl rfl)).trans (Kept.setCell (fun k => k = w.heap.size ∨ k = p1) _ ⟨p1, 0, none⟩ _ (Or.inr rfl)) (fun _ _ h => h) (fun _ _ h => h)
        refine ⟨(keptD_from k3 _).trans ⟨KS.size, fun k o hB hk hc => (KS.block k (Array.getElem?_eq_some_iff.1 hk).1 (fun h => by omega)).trans hk⟩, ⟨⟨xb, hxs⟩, by simp, hv⟩, ?_, ?_, ?_⟩
        · rw [setD_other _ (by omega)]
          exact setD_one o0 _
        · rw [← hp1]
          refine setD_one (x := .int .i64 0) ?_ _
          rw [setD_other _ (by omega)]
          exact o1
        · exact (HW2.out.trans ((hm.kept (Nat.le_refl _)).trans (k3.trans KS (T := fun k => k = w.heap.size ∨ k = p1) (fun _ _ h => h.elim) (fun _ _ h => h)) (T := fun k => w.heap.size ≤ k) (fun _ _ h => by unfold PaS at h; omega) (fun _ _ h => by omega)) (fun _ _ h => h.elim) (fun i hi h => by omega))
      have HRES : Hid (∀ W3, Kept (fun _ => False) W W3 → W3.cell? ⟨w.heap.size, 0, none⟩ = some (.slice none 0 0) ∧ W3.frozen? ⟨w.heap.size, 0, none⟩ = false ∧ W3.cell? ⟨p1, 0, none⟩ = some (.int .i64 0) ∧ W3.frozen? ⟨p1, 0, none⟩ = false) := Lib.hid fun W3 k3 => by
        have o0 := (k3.block _ (Array.getElem?_eq_some_iff.1 h0o).1 (fun h => h)).trans h0o
        have o1 := (k3.block _ (Array.getElem?_eq_some_iff.1 h1o).1 (fun h => h)).trans h1o
        exact ⟨(cellD_of o0).1, (cellD_of o0).2, (cellD_of o1).1, (cellD_of o1).2⟩
      have ne1 : ¬ p1 = w.heap.size := by omega
      have ne2 : ¬ w.heap.size = p1 := by omega
      clear hb hr hra hm hspn h1 h0o h1o hbw hLW hc hv hn hlt hms hs2 hp1 hp2 hq0
      gi_wp2_with (first
        | (refine ⟨trivial, ?_⟩; gi_at_call 37; refine (callsIn_wide.2 HPN.out).mono ?_; rintro e W1 ⟨x, y, rfl, k1⟩; have K1 := Lib.hid (k1.then (Kept.alloc (fun _ => False) W1 (.cells #[.int .i64 x, .int .i64 y] 49))); obtain ⟨c0, f0, c1, f1⟩ := HRES.out _ K1.out; obtain ⟨d0, g0, d1, g1⟩ := HRES.out _ k1; clear k1))
      exact ⟨(HX.out _ K1.out).1, rfl, (HX.out _ K1.out).2⟩
    · have HPY : Hid (Calls Tryz.prog 37 #[.string xb] W fun e w' => e = .returned (.tuple #[.agg #[.int .i64 px, .int .i64 py], .bool true]) ∧ Kept (fun _ => False) W w') := Lib.hid ((pspanD_any xb hxs W hLW).mono fun e w' ⟨x, y, ok, he, hk, hc⟩ => by
        rcases hc with ⟨rfl, h⟩ | ⟨_, h⟩
        · rw [hv] at h
          injection h with h
          injection h with h1 h2
          subst h1 h2
          exact ⟨he, hk⟩
        · rw [hv] at h; cases h)
      rw [hv] at hspn
      simp only at hspn
      have hsome : (spanV (PtB.l ⟨xb, hxs⟩)).isSome = true := by show (spanV xb.data.toList).isSome = true; rw [hv]; rfl
      have HB := Lib.hid hb; have HR := Lib.hid hr; have HRA := Lib.hid hra; have HM := Lib.hid hm; have HSP := Lib.hid hspn; have H1 := Lib.hid h1; have HSO := Lib.hid hsome
      obtain ⟨acc, hacc⟩ : ∃ acc, acc = spsP pre := ⟨_, rfl⟩
      rw [← hacc] at HR HB HSP hn hc HRA
      obtain ⟨n, hnn⟩ : ∃ n, n = acc.length := ⟨_, rfl⟩
      rw [← hnn] at HR HB hn hc HRA
      have HN := Lib.hid hnn
      have hn30 : ¬ (30000 : Int) < (n : Int) := by omega
      have hn30b : decide ((30000 : Int) < (n : Int)) = false := decide_eq_false hn30
      have hW6 : w.heap.size + 6 ≤ W.heap.size := by omega
      have HR' : Hid (W.ownsRow 0 49 2 (.slice a n c) n (flatG ESp acc)) := Lib.hid (by have := HR.out; unfold OwnG at this; rw [← HN.out] at this; exact this)
      clear hb hr hra hm hspn h1 h0o h1o hbw hLW hv hlt hms hs2 hp1 hp2 hq0 hsome hacc hnn HR
      gi_wp2_with (first
        | (refine ⟨trivial, ?_⟩; gi_at_call 37; refine (callsIn_wide.2 HPY.out).mono ?_; rintro e W1 ⟨rfl, k1⟩
           have b1 := (boxedD_on HB.out k1).alloc (.cells #[.int .i64 px, .int .i64 py] 49)
           have hc1 : (W1.alloc (.cells #[.int .i64 px, .int .i64 py] 49)).cell? ⟨p2, 0, none⟩ = some (.slice a n c) := by rw [HP2.out]; exact b1.cell
           have hl1 : W.heap.size ≤ W1.heap.size := k1.size
           have B1 := Lib.hid b1; have K1 := Lib.hid (k1.then (Kept.alloc (fun _ => False) W1 (.cells #[.int .i64 px, .int .i64 py] 49))); have R1 := Lib.hid ((k1.owns HR'.out (fun _ _ h => h)).alloc (.cells #[.int .i64 px, .int .i64 py] 49)); clear b1 k1)
        | (gi_at_builtin; refine wpListIn_append_own_at _ rfl _ _ 46 rfl 0 49 i0 (.agg #[.int .i64 0, .int .i64 0]) 2 16 Tryz.underlying46 hi hz0 hz1 hz2 rfl (by decide) _ _ _ rfl (R1.out.alloc _) ⟨W1.heap.size + 1, 0, none⟩ 1 1 [.int .i64 px, .int .i64 py] rfl rfl (lit3D _ _ _ _ _) (by simp [Value.oneCell']) (by unfold maxLen; omega) (by omega) (Nat.zero_le _) ?_
           intro v' w3 hown' hgrow _ hloc
           obtain ⟨g', cap', rfl⟩ := ownsRow_succ hown'
           obtain ⟨hv1, hv2, hr2, hk2, _⟩ := B1.out.appended (by decide) R1.out (Nat.zero_le _) (Nat.zero_le _) hown' hgrow
           rw [show (⟨w.heap.size + 2, 0, none⟩ : Addr) = ⟨p2, 0, none⟩ by rw [HP2.out]] at hv2 hr2 hk2
           have hc3 : w3.cell? ⟨p2, 0, none⟩ = some (.slice a n c) := by rw [HP2.out]; exact hv1.cell
           have hf3 : w3.frozen? ⟨p2, 0, none⟩ = false := by rw [HP2.out]; exact hv1.frozen
           have HG := Lib.hid hgrow; have HLO := Lib.hid hloc; have HV2 := Lib.hid hv2; have HR2 := Lib.hid hr2; have HK2 := Lib.hid hk2
           clear hown' hgrow hloc hv1 hv2 hr2 hk2))
      have hkm : ∀ S : Nat → Prop, S p2 → KeepM S w2.heap.size W (w3.setCell ⟨p2, 0, none⟩ (.slice (some ⟨g', 0, none⟩) (n + 1) cap')) := fun S hS2 =>
        (((keptD_keepM K1.out _ _).trans (KeepM.grown (World.grownBy_alloc _ _ none) (fun r e => by cases e))).trans (KeepM.grown HG.out (fun r e => Or.inl (HRA.out r e)))).trans (KeepM.grown (grownBy_setCell' w3 p2 _) (fun r e => by cases e; exact Or.inr hS2))
      have hp2 := HP2.out; have hs2 := HS2.out
      have hMs := HM.out.size
      refine ⟨(keptD_from K1.out _).trans (HK2.out.from _), hkm _ (by omega), ?_, ⟨_, HV2.out, ?_, fun k hk => ?_⟩, HM.out.trans (hkm _ (Or.inl (by omega)))⟩
      · intro y hy
        rcases List.mem_append.1 hy with hy | hy
        · exact H1.out y hy
        · obtain rfl := List.mem_singleton.1 hy
          exact HSO.out
      · rw [HSP.out]
        unfold OwnG
        rw [List.length_append, flatG_append, ← HN.out]
        exact HR2.out
      · rcases HLO.out with h | h
        · exact HRA.out k (h.symm.trans hk)
        · rw [h] at hk
          have hk' : k = W1.heap.size + 2 := by simpa using hk.symm
          omega
  case done =>
    rintro D ys W hD hys ⟨h1, ⟨v, hb, hr, hra⟩, hm⟩ hK
    have hs2 := HS2.out
    have hms := hm.size
    have hp2 := HP2.out
    have hbw : Below w.heap.size w2 W := keepM_below hm (by omega) (by omega) (fun k h1 h2 => by unfold PaS at h2; omega)
    have hkw : Kept (PaS w) w2 W := hm.kept (Nat.le_refl _)
    have hLW := (HLB.out.on hbw).at
    have hspl : spsP ys = spansV s.data.toList := by
      unfold spansV spsP
      rw [← hys, List.filterMap_map]; rfl
    have hlen : (spsP ys).length ≤ 100000 := by
      refine Nat.le_trans (List.length_filterMap_le _ _) ?_
      have e1 := congrArg List.length hys
      rw [List.length_map] at e1
      omega
    have hrow := hr.row
    have hc : W.cell? ⟨p2, 0, none⟩ = some v := by rw [hp2]; exact hb.cell
    have h0o := (hm.block w.heap.size (by omega) (by omega) (by unfold PaS; omega)).trans HR0.out
    have h1o := (hm.block (w.heap.size + 1) (by omega) (by omega) (by unfold PaS; omega)).trans HR1.out
    have hOF := ofD_own W v (spsP ys) hrow hlen
    have hUN : ∀ t', CanD t' → textD t' = s.data.toList → errD (spsP ys) = 0 ∧ ∀ t, CanD t → (∀ d, inD t d = spanIn (spsP ys) d) → t = t' := fun t' hc' ht' => by
      have e := (spansV_text hc' ht' HNO.out HALL.out).1
      rw [hspl, e]
      refine ⟨errD_zero (spansD_ok hc'), fun t hc2 hv2 => canD_unique hc2 hc' fun d _ _ => ?_⟩
      rw [hv2, spanIn_spansD hc']
    have HUN := Lib.hid hUN; have HOF := Lib.hid hOF; have HKD := Lib.hid hK; have HH0 := Lib.hid h0o; have HH1 := Lib.hid h1o; have HLW := Lib.hid hLW; have HKW := Lib.hid hkw
    have hDW : D < W.heap.size := (Array.getElem?_eq_some_iff.1 hK).1
    clear hK hb hr hra hm hbw hkw hLW hys h1 h0o h1o hspl hlen hrow hOF hUN
    obtain ⟨E, hE⟩ : ∃ E, E = errD (spsP ys) := ⟨_, rfl⟩
    rw [← hE] at HOF HUN
    clear hE
    have ne1 : ¬ p1 = w.heap.size := by have := HP1.out; omega
    have ne2 : ¬ w.heap.size = p1 := by have := HP1.out; omega
    have hwW : w.heap.size + 2 < W.heap.size := by omega
    clear hp2 hs2
    by_cases hE0 : E = 0
    · subst hE0
      have HOF2 : Hid (Calls Tryz.prog 24 #[v] W fun e w' => ∃ (a : Option Addr) (c : Nat) (t : List Int), e = .returned (.tuple #[.agg #[.slice a t.length c], .int .i64 0]) ∧ SetD w' (.agg #[.slice a t.length c]) t ∧ (∀ d, inD t d = spanIn (spsP ys) d) ∧ NewV W (.agg #[.slice a t.length c]) ∧ Kept (fun _ => False) W w') := Lib.hid (HOF.out.mono fun e w' ⟨sv, he, hk, hc⟩ => by
        rcases hc with ⟨_, t, h2, h3, h9⟩ | ⟨h, _⟩
        · obtain ⟨row, rfl, h4, h5⟩ := h2
          obtain ⟨a, c, rfl, _, _⟩ := h4.form
          exact ⟨a, c, t, he, ⟨_, rfl, h4, h5⟩, h3, h9, hk⟩
        · exact absurd rfl h)
      clear HOF
      gi_wp2_with (first
        | (refine ⟨trivial, ?_⟩; gi_at_call 24; refine (callsIn_wide.2 HOF2.out).mono ?_; rintro e W1 ⟨a, c, t, rfl, hset, hval, hnw, k1⟩
           have K1 := Lib.hid (k1.then (Kept.alloc (fun _ => False) W1 (.cells #[.slice a t.length c] 26)))
           have HSET := Lib.hid (hset.on (Kept.alloc (fun _ => False) W1 (.cells #[.slice a t.length c] 26)))
           have HVAL := Lib.hid hval; have HNW := Lib.hid (hnw.low (a := w) (Nat.le_of_lt (Nat.lt_of_le_of_lt (Nat.le_add_right _ 2) hwW))); clear hnw
           have o0 := (K1.out.block _ (Array.getElem?_eq_some_iff.1 HH0.out).1 (fun h => h)).trans HH0.out
           have o1 := (K1.out.block _ (Array.getElem?_eq_some_iff.1 HH1.out).1 (fun h => h)).trans HH1.out
           rw [← HP1.out] at o1
           obtain ⟨c0, f0⟩ := cellD_of o0
           obtain ⟨c1, f1⟩ := cellD_of o1
           clear k1 o0 o1 hset hval))
      have hcan : CanD t := HSET.out.can
      by_cases heq : textD t = s.data.toList
      · have HT : Hid ((⟨(textD t).toArray⟩ : ByteArray) = s) := by
          show _ = _
          rw [heq]
        have HEQ := Lib.hid heq
        clear heq hcan
        refine ⟨trivial, ?_⟩
        gi_at_call 8
        refine (callsIn_wide.2 (textP_any _ _ t HSET.out ((HLW.out.kept K1.out).tab))).mono ?_
        rintro e W3 ⟨rfl, k3⟩
        have b0 := (k3.cell (p := ⟨W1.heap.size, 0, none⟩) (by simp) (fun h => h)).trans (show (W1.alloc (.cells #[.slice a t.length c] 26)).cell? ⟨W1.heap.size, 0, none⟩ = some (.slice a t.length c) from new1P _ _ _)
        have K3 := Lib.hid (K1.out.then k3); have SET3 := Lib.hid (HSET.out.on k3)
        have o0 := (K3.out.block _ (Array.getElem?_eq_some_iff.1 HH0.out).1 (fun h => h)).trans HH0.out
        have o1 := (K3.out.block _ (Array.getElem?_eq_some_iff.1 HH1.out).1 (fun h => h)).trans HH1.out
        have oD := (K3.out.block _ hDW (fun h => h)).trans HKD.out
        have kw3 : Kept (fun k => w.heap.size ≤ k) w W3 := HW2.out.trans (HKW.out.trans K3.out (T := fun k => w.heap.size ≤ k) (fun _ _ h => by unfold PaS at h; omega) (fun _ _ h => h.elim)) (fun _ _ h => h.elim) (fun _ _ h => h)
        have HO0 := Lib.hid o0; have HO1 := Lib.hid o1; have HOD := Lib.hid oD; have HKW3 := Lib.hid kw3
        obtain ⟨d0, g0⟩ := cellD_of o0
        rw [← HP1.out] at o1
        obtain ⟨d1, g1⟩ := cellD_of o1
        clear k3 o0 o1 oD kw3 c0 f0 c1 f1
        rw [HT.out]
        gi_wp2_with fail
        have hD2 : w.heap.size + 2 ≤ D := by have := HS2.out; omega
        have hp1 := HP1.out
        obtain ⟨e1, e2, e3, e4⟩ := paD_fin (.slice a t.length c) (.int .i64 0) hp1 hD2 HOD.out HO0.out HO1.out HKW3.out
        have hset := setD_same SET3.out (b := ((W3.setCell ⟨w.heap.size, 0, none⟩ (.slice a t.length c)).setCell ⟨p1, 0, none⟩ (.int .i64 0)).putObj D (.deferred none)) (by simp) (paD_ints (.slice a t.length c) hp1 HOD.out HO0.out HO1.out)
        refine ⟨by simp, .inl ⟨_, _, rfl, run_takeDeferred e1, ?_⟩⟩
        refine ⟨.tuple #[.agg #[.slice a t.length c], .int .i64 0], ?_, _, _, rfl, e2, Or.inl ⟨rfl, t, hset, HEQ.out, HNW.out⟩⟩
        rw [← hp1] at e4
        simp [results, Tryz.results10, go_sem, e3, e4]
      · have HNONE : Hid (∀ u, CanD u → textD u ≠ s.data.toList) := Lib.hid fun u hu he => heq (by rw [(HUN.out u hu he).2 t hcan HVAL.out]; exact he)
        obtain ⟨T, hTT⟩ : ∃ T : ByteArray, T = ⟨(textD t).toArray⟩ := ⟨_, rfl⟩
        have hb1 : (T.toList == s.toList) = false := by
          rw [beq_eq_false_iff_ne, Lib.toList_data, Lib.toList_data, hTT]
          exact heq
        have HT := Lib.hid hTT.symm
        clear heq hcan hTT
        refine ⟨trivial, ?_⟩
        gi_at_call 8
        refine (callsIn_wide.2 (textP_any _ _ t HSET.out ((HLW.out.kept K1.out).tab))).mono ?_
        rintro e W3 ⟨rfl, k3⟩
        have b0 := (k3.cell (p := ⟨W1.heap.size, 0, none⟩) (by simp) (fun h => h)).trans (show (W1.alloc (.cells #[.slice a t.length c] 26)).cell? ⟨W1.heap.size, 0, none⟩ = some (.slice a t.length c) from new1P _ _ _)
        have K3 := Lib.hid (K1.out.then k3); have SET3 := Lib.hid (HSET.out.on k3)
        have o0 := (K3.out.block _ (Array.getElem?_eq_some_iff.1 HH0.out).1 (fun h => h)).trans HH0.out
        have o1 := (K3.out.block _ (Array.getElem?_eq_some_iff.1 HH1.out).1 (fun h => h)).trans HH1.out
        have oD := (K3.out.block _ hDW (fun h => h)).trans HKD.out
        have kw3 : Kept (fun k => w.heap.size ≤ k) w W3 := HW2.out.trans (HKW.out.trans K3.out (T := fun k => w.heap.size ≤ k) (fun _ _ h => by unfold PaS at h; omega) (fun _ _ h => h.elim)) (fun _ _ h => h.elim) (fun _ _ h => h)
        have HO0 := Lib.hid o0; have HO1 := Lib.hid o1; have HOD := Lib.hid oD; have HKW3 := Lib.hid kw3
        obtain ⟨d0, g0⟩ := cellD_of o0
        rw [← HP1.out] at o1
        obtain ⟨d1, g1⟩ := cellD_of o1
        clear k3 o0 o1 oD kw3 c0 f0 c1 f1
        rw [HT.out]
        gi_wp2_with fail
        have hD2 : w.heap.size + 2 ≤ D := by have := HS2.out; omega
        have hp1 := HP1.out
        obtain ⟨e1, e2, e3, e4⟩ := paD_fin (.slice none 0 0) (.int .i64 6) hp1 hD2 HOD.out HO0.out HO1.out HKW3.out
        refine ⟨by simp, .inl ⟨_, _, rfl, run_takeDeferred e1, ?_⟩⟩
        refine ⟨.tuple #[.agg #[.slice none 0 0], .int .i64 6], ?_, _, _, rfl, e2, Or.inr ⟨rfl, rfl, HNONE.out⟩⟩
        rw [← hp1] at e4
        simp [results, Tryz.results10, go_sem, e3, e4]
    · have HOF2 : Hid (Calls Tryz.prog 24 #[v] W fun e w' => e = .returned (.tuple #[.agg #[.slice none 0 0], .int .i64 E]) ∧ Kept (fun _ => False) W w') := Lib.hid (HOF.out.mono fun e w' ⟨sv, he, hk, hc⟩ => by
        rcases hc with ⟨h, _⟩ | ⟨_, rfl⟩
        · exact absurd h hE0
        · exact ⟨he, hk⟩)
      have hE0b : (E == 0) = false := by rw [beq_eq_false_iff_ne]; exact hE0
      have hE0n : (E != 0) = true := by simp [hE0]
      have HNONE : Hid (∀ t, CanD t → textD t ≠ s.data.toList) := Lib.hid fun t hc' ht => hE0 (HUN.out t hc' ht).1
      clear HOF
      gi_wp2_with (first
        | (refine ⟨trivial, ?_⟩; gi_at_call 24; refine (callsIn_wide.2 HOF2.out).mono ?_; rintro e W1 ⟨rfl, k1⟩
           have K1 := Lib.hid (k1.then (Kept.alloc (fun _ => False) W1 (.cells #[.slice none 0 0] 26)))
           have o0 := (K1.out.block _ (Array.getElem?_eq_some_iff.1 HH0.out).1 (fun h => h)).trans HH0.out
           have o1 := (K1.out.block _ (Array.getElem?_eq_some_iff.1 HH1.out).1 (fun h => h)).trans HH1.out
           rw [← HP1.out] at o1
           obtain ⟨c0, f0⟩ := cellD_of o0
           obtain ⟨c1, f1⟩ := cellD_of o1
           clear k1 o0 o1))
      refine ⟨trivial, ?_⟩
      gi_wp2_with fail
      have hD2 : w.heap.size + 2 ≤ D := by have := HS2.out; omega
      have hp1 := HP1.out
      have o0 := (K1.out.block _ (Array.getElem?_eq_some_iff.1 HH0.out).1 (fun h => h)).trans HH0.out
      have o1 := (K1.out.block _ (Array.getElem?_eq_some_iff.1 HH1.out).1 (fun h => h)).trans HH1.out
      have oD := (K1.out.block _ hDW (fun h => h)).trans HKD.out
      have kw3 : Kept (fun k => w.heap.size ≤ k) w (W1.alloc (.cells #[.slice none 0 0] 26)) := HW2.out.trans (HKW.out.trans K1.out (T := fun k => w.heap.size ≤ k) (fun _ _ h => by unfold PaS at h; omega) (fun _ _ h => h.elim)) (fun _ _ h => h.elim) (fun _ _ h => h)
      obtain ⟨e1, e2, e3, e4⟩ := paD_fin (.slice none 0 0) (.int .i64 6) hp1 hD2 oD o0 o1 kw3
      refine ⟨by simp, .inl ⟨_, _, rfl, run_takeDeferred e1, ?_⟩⟩
      refine ⟨.tuple #[.agg #[.slice none 0 0], .int .i64 6], ?_, _, _, rfl, e2, Or.inr ⟨rfl, rfl, HNONE.out⟩⟩
      rw [← hp1] at e4
      simp [results, Tryz.results10, go_sem, e3, e4]
  case stop =>
    rintro D c pre W hD hpf ⟨rfl, ⟨x, hx, hf⟩, h0, h1, h2⟩ hK
    have hs2 := HS2.out
    have hg := grownBy_putObj' W D (.deferred none)
    have q0' := (hg.block _ (Array.getElem?_eq_some_iff.1 h0).1 (fun e => by injection e with e; omega)).trans h0
    have q1' := (hg.block _ (Array.getElem?_eq_some_iff.1 h1).1 (fun e => by injection e with e; omega)).trans h1
    have e4 := (cellD_of q0').1
    have e6 := (cellD_of q1').1
    have HNONE : Hid (∀ t, CanD t → textD t ≠ s.data.toList) := Lib.hid fun t hc' ht => by
      have h5 := (spansV_text hc' ht HNO.out HALL.out).2 x.l (hpf.subset (List.mem_map_of_mem hx))
      rw [hf] at h5
      cases h5
    have E4 := Lib.hid e4; have E6 := Lib.hid e6; clear e4 e6 q0' q1'
    gi_wp2
    have e4 := E4.out
    have e6 := E6.out
    rw [← HP1.out] at e6
    refine ⟨by simp, .inl ⟨_, _, rfl, run_takeDeferred hK, ?_⟩⟩
    refine ⟨.tuple #[.agg #[.slice none 0 0], .int .i64 6], ?_, _, _, rfl, h2.trans (Kept.ofGrown (S := fun k => k = D) hg (fun k e => by injection e with e; exact e.symm)) (fun _ _ h => h) (fun i hi h => by omega), Or.inr ⟨rfl, rfl, HNONE.out⟩⟩
    simp [results, Tryz.results10, go_sem, e4, e6]
theorem pparseD_any (w : World) (s : ByteArray) (hs : s.size ≤ 1000000) (hq : (splitC 44 s.data.toList).length ≤ 15001) (hL : LibD w) :
    Calls Tryz.prog 10 #[.string s] w fun e w' => ∃ (v : Value) (E : Int), e = .returned (.tuple #[v, .int .i64 E]) ∧ Kept (fun _ => False) w w' ∧
      ((E = 0 ∧ ∃ t, SetD w' v t ∧ textD t = s.data.toList) ∨ (E = 6 ∧ v = .agg #[.slice none 0 0] ∧ ∀ t, CanD t → textD t ≠ s.data.toList)) := by
  refine (pparseD_own w s hs hq hL).mono ?_
  rintro e w' ⟨v, E, h1, h2, h3⟩
  refine ⟨v, E, h1, h2, ?_⟩
  rcases h3 with ⟨h4, t, h5, h6, _⟩ | h3
  · exact Or.inl ⟨h4, t, h5, h6⟩
  · exact Or.inr h3
end Go.Proofs.YtjglnpijngdpkaaGreatDoor
