import Derived.Test.YtjglnpijngdpkaaDoorDyBp
import Derived.Test.YtjglnpijngdpkaaDoorDyFi
import Derived.Test.YtjglnpijngdpkaaDoorDyMk
import Derived.Test.YtjglnpijngdpkaaDoorGD
import Derived.Test.YtjglnpijngdpkaaDoorBBe
import Derived.Test.YtjglnpijngdpkaaDoorGA
/-
  Days: make2 of DaysBits: spans below 301 as a set of days and as a set of numbers.
-/
namespace Go.Proofs.YtjglnpijngdpkaaDoor
open Go.RowKit Go.Shelf
set_option linter.unusedSimpArgs false
set_option linter.unusedVariables false
set_option maxRecDepth 100000

theorem SetV.ltD {w : World} {v : Value} {M : Nat} (h : SetV w v M) : ∀ k, setBlk v k → k < w.heap.size := fun k ⟨lo, hv, e, hk⟩ => by
  obtain ⟨hv', hs, e', hw, _, _⟩ := h.ex
  rw [e'] at e
  have : hv' = hv := by simp at e; exact e.2
  subst this
  exact hw.lt k hk
theorem SetV.keptD {S : Nat → Prop} {a b : World} {v : Value} {M : Nat} (h : SetV a v M) (hk : Kept S a b) (hn : ∀ k, setBlk v k → ¬ S k) : SetV b v M := by
  obtain ⟨hv, hs, e, hw, hc, hz⟩ := h.ex
  exact ⟨hv, hs, e, hw.kept hk (fun k h => hn k ⟨_, _, e, h⟩), hc, hz⟩
theorem SetV.onD {a b : World} {v : Value} {M : Nat} (h : SetV a v M) (hk : Kept (fun _ => False) a b) : SetV b v M := h.keptD hk (fun _ _ h => h)
theorem SetV.formD {w : World} {v : Value} {M : Nat} (h : SetV w v M) : ∃ (lo : Nat) (a : Option Addr) (n c : Nat), v = .agg #[.int .u64 (lo : Int), .slice a n c] := by
  obtain ⟨hv, hs, e, hw, hc, hz⟩ := h.ex
  obtain ⟨a, c, rfl⟩ := hw.form
  exact ⟨_, _, _, _, e⟩
/-- The cell of a set of numbers. -/
structure BoxS (W : World) (P : Nat) (x y : Value) : Prop where
  c0 : W.cell? ⟨P, 0, none⟩ = some x
  c1 : W.cell? ⟨P, 1, none⟩ = some y
  f0 : W.frozen? ⟨P, 0, none⟩ = false
  f1 : W.frozen? ⟨P, 1, none⟩ = false
theorem BoxS.kept {S : Nat → Prop} {a b : World} {P : Nat} {x y : Value} (h : BoxS a P x y) (hk : Kept S a b) (hP : ¬ S P) : BoxS b P x y := by
  have hlt := World.block_lt_of_cell? a _ h.c0
  exact ⟨(hk.cell (p := ⟨P, 0, none⟩) hlt hP).trans h.c0, (hk.cell (p := ⟨P, 1, none⟩) hlt hP).trans h.c1, (hk.frozen (p := ⟨P, 0, none⟩) hlt hP).trans h.f0, (hk.frozen (p := ⟨P, 1, none⟩) hlt hP).trans h.f1⟩
theorem BoxS.set {W : World} {P : Nat} {x y : Value} (h : BoxS W P x y) (u v : Value) : BoxS ((W.setCell ⟨P, 0, none⟩ u).setCell ⟨P, 1, none⟩ v) P u v := by
  have n1 : (⟨P, 1, none⟩ : Addr) ≠ ⟨P, 0, none⟩ := fun e => by injection e with _ e _; omega
  have c1 : (W.setCell ⟨P, 0, none⟩ u).cell? ⟨P, 1, none⟩ = some y := (World.cell?_setCell_other _ _ _ _ n1.symm).trans h.c1
  exact ⟨(World.cell?_setCell_other _ _ _ _ n1).trans (World.cell?_setCell_same _ _ _ h.c0), World.cell?_setCell_same _ _ _ c1, by rw [World.frozen?_setCell, World.frozen?_setCell]; exact h.f0, by rw [World.frozen?_setCell, World.frozen?_setCell]; exact h.f1⟩
/-- The cells of the results. -/
structure BoxR (W : World) (R : Nat) : Prop where
  r0 : W.cell? ⟨R, 0, none⟩ = some (.slice none 0 0)
  r1 : W.cell? ⟨R + 1, 0, none⟩ = some (.int .u64 0)
  r2 : W.cell? ⟨R + 1, 1, none⟩ = some (.slice none 0 0)
  g0 : W.frozen? ⟨R, 0, none⟩ = false
  g1 : W.frozen? ⟨R + 1, 0, none⟩ = false
  g2 : W.frozen? ⟨R + 1, 1, none⟩ = false
theorem BoxR.on {a b : World} {R : Nat} (h : BoxR a R) (hk : Kept (fun _ => False) a b) (hR : R + 1 < a.heap.size) : BoxR b R := by
  have l0 : R < a.heap.size := by omega
  exact ⟨(hk.cell (p := ⟨R, 0, none⟩) l0 (fun h => h)).trans h.r0, (hk.cell (p := ⟨R + 1, 0, none⟩) hR (fun h => h)).trans h.r1, (hk.cell (p := ⟨R + 1, 1, none⟩) hR (fun h => h)).trans h.r2, (hk.frozen (p := ⟨R, 0, none⟩) l0 (fun h => h)).trans h.g0, (hk.frozen (p := ⟨R + 1, 0, none⟩) hR (fun h => h)).trans h.g1, (hk.frozen (p := ⟨R + 1, 1, none⟩) hR (fun h => h)).trans h.g2⟩
theorem BoxR.put {W : World} {R : Nat} (h : BoxR W R) (x u v : Value) :
    let W' := ((W.setCell ⟨R, 0, none⟩ x).setCell ⟨R + 1, 0, none⟩ u).setCell ⟨R + 1, 1, none⟩ v
    W'.cell? ⟨R, 0, none⟩ = some x ∧ W'.cell? ⟨R + 1, 0, none⟩ = some u ∧ W'.cell? ⟨R + 1, 1, none⟩ = some v ∧ Kept (fun i => i = R ∨ i = R + 1) W W' ∧ (W.setCell ⟨R, 0, none⟩ x).cell? ⟨R + 1, 0, none⟩ = some (.int .u64 0) ∧ ((W.setCell ⟨R, 0, none⟩ x).setCell ⟨R + 1, 0, none⟩ u).cell? ⟨R + 1, 1, none⟩ = some (.slice none 0 0) := by
  intro W'
  have n1 : (⟨R + 1, 0, none⟩ : Addr) ≠ ⟨R, 0, none⟩ := fun e => by injection e with e _ _; omega
  have n2 : (⟨R + 1, 1, none⟩ : Addr) ≠ ⟨R, 0, none⟩ := fun e => by injection e with e _ _; omega
  have n3 : (⟨R + 1, 1, none⟩ : Addr) ≠ ⟨R + 1, 0, none⟩ := fun e => by injection e with _ e _; omega
  have a1 : (W.setCell ⟨R, 0, none⟩ x).cell? ⟨R + 1, 0, none⟩ = some (.int .u64 0) := (World.cell?_setCell_other _ _ _ _ n1.symm).trans h.r1
  have a2 : (W.setCell ⟨R, 0, none⟩ x).cell? ⟨R + 1, 1, none⟩ = some (.slice none 0 0) := (World.cell?_setCell_other _ _ _ _ n2.symm).trans h.r2
  have a3 : ((W.setCell ⟨R, 0, none⟩ x).setCell ⟨R + 1, 0, none⟩ u).cell? ⟨R + 1, 1, none⟩ = some (.slice none 0 0) := (World.cell?_setCell_other _ _ _ _ n3.symm).trans a2
  refine ⟨(World.cell?_setCell_other _ _ _ _ n2).trans ((World.cell?_setCell_other _ _ _ _ n1).trans (World.cell?_setCell_same _ _ _ h.r0)), (World.cell?_setCell_other _ _ _ _ n3).trans (World.cell?_setCell_same _ _ _ a1), World.cell?_setCell_same _ _ _ a3, ?_, a1, a3⟩
  have s : ∀ (V : World) (q o : Nat) (v : Value), (q = R ∨ q = R + 1) → Kept (fun i => i = R ∨ i = R + 1) V (V.setCell ⟨q, o, none⟩ v) := fun V q o v hq => (Kept.setCell (fun i => i = q) V ⟨q, o, none⟩ v rfl).mono (fun i _ e => by subst e; exact hq)
  exact ((s _ R 0 x (Or.inl rfl)).trans (s _ (R + 1) 0 u (Or.inr rfl)) (fun _ _ h => h) (fun _ _ h => h)).trans (s _ (R + 1) 1 v (Or.inr rfl)) (fun _ _ h => h) (fun _ _ h => h)
def fit31 (p : Nat × Nat) : Int × Int := (((min (p.1 % 301) (p.2 % 301) : Nat) : Int), ((max (p.1 % 301) (p.2 % 301) : Nat) : Int))
def fit3 (l : List (Nat × Nat)) : List (Int × Int) := (l.take 6).map fit31
theorem fit3_ok (l : List (Nat × Nat)) : ∀ p ∈ l.map fit31, okSp p ∧ p.2 ≤ 300 := by
  intro p hp
  obtain ⟨x, _, rfl⟩ := List.mem_map.1 hp
  have h1 := Nat.mod_lt x.1 (show 0 < 301 by omega)
  have h2 := Nat.mod_lt x.2 (show 0 < 301 by omega)
  unfold fit31 okSp
  simp only []
  omega
theorem spanIn_far {l : List (Int × Int)} (h : ∀ p ∈ l, okSp p ∧ p.2 ≤ 300) : ∀ x : Nat, 301 ≤ x → spanIn l (x : Int) = false := fun x hx => by
  unfold spanIn
  rw [List.any_eq_false]
  intro p hp
  have := (h p hp).2
  simp
  intro _
  omega
theorem RelB.span {M : Nat} {l : List (Int × Int)} (h : RelB M (spanIn l)) (p q : Nat) (hq : q ≤ 300) (hp : p ≤ q) : RelB (M ||| anN (2 ^ clampN ((q + 1 : Nat) : Int) - 1) (2 ^ clampN (p : Int) - 1)) (spanIn (l ++ [((p : Int), (q : Int))])) := by
  refine (h.or ((RelB.below (q + 1) (by omega)).minus (RelB.below p (by omega)))).ext fun x => ?_
  rw [spanIn_append]
  congr 1
  unfold spanIn
  simp only [List.any_cons, List.any_nil, Bool.or_false]
  rw [Bool.eq_iff_iff]
  simp
  omega

/-- What make2's loop has made: the row of spans, and the set of numbers in its cell. -/
structure M2I (w2 wr : World) (P : Nat) (a : Option Addr) (c : Nat) (acc : List (Int × Int)) (lo : Nat) (b : Option Addr) (m kk M : Nat) : Prop where
  row : OwnG ESp 62 (P + 1) wr (.slice a acc.length c) acc
  box : BoxS wr P (.int .u64 (lo : Int)) (.slice b m kk)
  set : SetV wr (.agg #[.int .u64 (lo : Int), .slice b m kk]) M
  rel : RelB M (spanIn acc)
  sep : ∀ k, setBlk (.agg #[.int .u64 (lo : Int), .slice b m kk]) k → P < k ∧ (Value.slice a acc.length c).ownBlock ≠ some k
  kept : Kept (fun _ => False) w2 wr
  big : P + 1 ≤ wr.heap.size
  lowP : w2.heap.size ≤ P
theorem M2I.on {w2 wr wd : World} {P : Nat} {a : Option Addr} {c : Nat} {acc : List (Int × Int)} {lo : Nat} {b : Option Addr} {m kk M : Nat} (h : M2I w2 wr P a c acc lo b m kk M) (k : Kept (fun _ => False) wr wd) : M2I w2 wd P a c acc lo b m kk M :=
  ⟨h.row.on k, h.box.kept k (fun h => h), h.set.onD k, h.rel, h.sep, h.kept.then k, Nat.le_trans h.big k.size, h.lowP⟩
/-- Behind the append: the new row, and the set of numbers as it was. -/
structure M2J (w2 wr : World) (P : Nat) (a' : Option Addr) (c' : Nat) (acc acc2 : List (Int × Int)) (lo : Nat) (b : Option Addr) (m kk M : Nat) : Prop where
  row : OwnG ESp 62 (P + 1) wr (.slice a' acc2.length c') acc2
  box : BoxS wr P (.int .u64 (lo : Int)) (.slice b m kk)
  set : SetV wr (.agg #[.int .u64 (lo : Int), .slice b m kk]) M
  rel : RelB M (spanIn acc)
  sep : ∀ k, setBlk (.agg #[.int .u64 (lo : Int), .slice b m kk]) k → P < k ∧ (Value.slice a' acc2.length c').ownBlock ≠ some k
  kept : Kept (fun _ => False) w2 wr
  big : P + 1 ≤ wr.heap.size
  lowP : w2.heap.size ≤ P
theorem M2I.push {w2 wr w4 : World} {P : Nat} {a a' : Option Addr} {c c' : Nat} {acc acc2 : List (Int × Int)} {lo : Nat} {b : Option Addr} {m kk M : Nat} {ob : Obj} (h : M2I w2 wr P a c acc lo b m kk M)
    (ho : OwnG ESp 62 (P + 1) w4 (.slice a' acc2.length c') acc2) (hk : Kept (fun k => (Value.slice a acc.length c).ownBlock = some k) (wr.alloc ob) w4)
    (hat : (Value.slice a' acc2.length c').ownBlock = (Value.slice a acc.length c).ownBlock ∨ (Value.slice a' acc2.length c').ownBlock = some (wr.alloc ob).heap.size) : M2J w2 w4 P a' c' acc acc2 lo b m kk M := by
  have hlt := fun k e => h.row.lt k e
  have k0 : Kept (fun _ => False) wr (wr.alloc ob) := Kept.alloc _ _ _
  refine ⟨ho, (h.box.kept k0 (fun h => h)).kept hk (fun e => by have := (hlt P e).1; omega), (h.set.onD k0).keptD hk (fun k hk' e => (h.sep k hk').2 e), h.rel, fun k hk' => ⟨(h.sep k hk').1, fun e => ?_⟩, ?_, ?_, ?_⟩
  · rcases hat with e2 | e2
    · exact (h.sep k hk').2 (e2.symm.trans e)
    · rw [e2] at e
      have e3 : (wr.alloc ob).heap.size = k := by injection e
      have := h.set.ltD k hk'
      rw [World.size_alloc] at e3
      omega
  · refine (h.kept.then k0).trans hk (fun _ _ h => h) (fun i hi e => ?_)
    have := (hlt i e).1
    have := h.lowP
    omega
  · have := hk.size; rw [World.size_alloc] at this; have := h.big; omega
  · exact h.lowP
theorem M2J.next {w2 w4 q4 : World} {P : Nat} {a' : Option Addr} {c' : Nat} {acc acc2 : List (Int × Int)} {lo : Nat} {b : Option Addr} {m kk M : Nat} {lo4 : Nat} {b4 : Option Addr} {m4 k4 M4 : Nat} (h : M2J w2 w4 P a' c' acc acc2 lo b m kk M)
    (k : Kept (fun _ => False) w4 q4) (hs : SetV q4 (.agg #[.int .u64 (lo4 : Int), .slice b4 m4 k4]) M4) (ht : ∀ k, setBlk (.agg #[.int .u64 (lo4 : Int), .slice b4 m4 k4]) k → setBlk (.agg #[.int .u64 (lo : Int), .slice b m kk]) k ∨ w4.heap.size ≤ k) (hr : RelB M4 (spanIn acc2)) :
    M2I w2 ((q4.setCell ⟨P, 0, none⟩ (.int .u64 (lo4 : Int))).setCell ⟨P, 1, none⟩ (.slice b4 m4 k4)) P a' c' acc2 lo4 b4 m4 k4 M4 := by
  have kp : Kept (fun i => i = P) q4 ((q4.setCell ⟨P, 0, none⟩ (.int .u64 (lo4 : Int))).setCell ⟨P, 1, none⟩ (.slice b4 m4 k4)) := (Kept.setCell (fun i => i = P) q4 _ _ rfl).trans (Kept.setCell (fun i => i = P) _ _ _ rfl) (fun _ _ h => h) (fun _ _ h => h)
  have hb := h.big
  have hsep : ∀ k, setBlk (.agg #[.int .u64 (lo4 : Int), .slice b4 m4 k4]) k → P < k ∧ (Value.slice a' acc2.length c').ownBlock ≠ some k := fun k hk => by
    rcases ht k hk with e | e
    · exact h.sep k e
    · exact ⟨by omega, fun e2 => by have := (h.row.lt k e2).2; omega⟩
  refine ⟨(h.row.on k).kept kp (fun i e e2 => by have := (h.row.lt i e).1; omega), (h.box.kept k (fun h => h)).set _ _, hs.keptD kp (fun i hi e => by have := (hsep i hi).1; omega), hr, hsep, ?_, ?_, h.lowP⟩
  · exact (h.kept.then k).trans kp (fun _ _ h => h) (fun i hi e => by have := h.lowP; omega)
  · have := k.size; have := kp.size; omega
/-- A store into a cell that holds no int leaves a row of ints. -/
theorem rowI_setCell {w : World} {row v x : Value} {t : List Int} {g o : Nat} (h : RowG EI w row t) (hc : w.cell? ⟨g, o, none⟩ = some x) (hx : ∀ n, x ≠ .int .i64 n) : RowG EI (w.setCell ⟨g, o, none⟩ v) row t := by
  rcases h with h | ⟨b, off, cap, rfl, h1, h2, h3, h4⟩
  · exact Or.inl h
  · refine Or.inr ⟨b, off, cap, rfl, h1, h2, by rw [World.size_setCell]; exact h3, fun i hi j u hu => ?_⟩
    have hcell := h4 i hi j u hu
    have hu2 : ∃ n, u = .int .i64 n := by
      have hm := List.mem_of_getElem? hu
      simp only [EI, List.mem_singleton] at hm
      exact ⟨_, hm⟩
    obtain ⟨n, rfl⟩ := hu2
    refine (World.cell?_setCell_other _ _ _ _ fun e => ?_).trans hcell
    rw [← e, hc] at hcell
    injection hcell with he
    exact hx n he

set_option maxHeartbeats 6400000 in
theorem make2_any (w0 : World) (v : Value) (l : List (Nat × Nat)) (h : RowG EU w0 v l) (hl : ∀ p ∈ l, p.1 < 65536 ∧ p.2 < 65536) :
    Calls Tryd.prog 30 #[v] w0 fun e w' => ∃ (a : Option Addr) (n c lo : Nat) (b : Option Addr) (m kk M : Nat), e = .returned (.tuple #[.agg #[.slice a n c], .agg #[.int .u64 (lo : Int), .slice b m kk], .bool true]) ∧ MemD w' (.agg #[.slice a n c]) (spanIn (fit3 l)) ∧ SetV w' (.agg #[.int .u64 (lo : Int), .slice b m kk]) M ∧ RelB M (spanIn (fit3 l)) ∧ Kept (fun _ => False) w0 w' := by
  obtain ⟨la, lc, rfl, h1, h2⟩ := h.form
  have HV := Lib.hid h
  obtain ⟨N, hN⟩ : ∃ N, N = l.length := ⟨_, rfl⟩
  rw [← hN] at HV h1 ⊢
  have HN := Lib.hid hN; have HB := Lib.hid hl
  unfold maxLen at h2
  clear h hN hl
  go_enter Tryd.func30, Tryd.ntmps30
  go_wp2_with fail
  obtain ⟨R, hR⟩ : ∃ R, R = w0.heap.size := ⟨_, rfl⟩
  rw [← hR]
  have HRC : Hid (((w0.alloc (.cells #[.slice none 0 0] 27)).alloc (.cells #[.int .u64 0, .slice none 0 0] 57)).heap.size = R + 2 ∧ BoxR ((w0.alloc (.cells #[.slice none 0 0] 27)).alloc (.cells #[.int .u64 0, .slice none 0 0] 57)) R) := Lib.hid ⟨by rw [hR]; simp, by rw [hR]; exact ⟨by go_simp, by go_simp, by go_simp, by go_simp, by go_simp, by go_simp⟩⟩
  have HK1 := Lib.hid (show Kept (fun _ => False) w0 ((w0.alloc (.cells #[.slice none 0 0] 27)).alloc (.cells #[.int .u64 0, .slice none 0 0] 57)) from (Kept.alloc _ _ _).then (Kept.alloc _ _ _))
  have HR := Lib.hid hR
  clear hR
  refine (of_nil _).mono ?_
  generalize (w0.alloc (.cells #[.slice none 0 0] 27)).alloc (.cells #[.int .u64 0, .slice none 0 0] 57) = w1 at *
  rintro e w2 ⟨rfl, k2⟩
  have HK2 := Lib.hid (HK1.out.then k2)
  have HRR : Hid (∀ W, Kept (fun _ => False) w2 W → BoxR W R) := Lib.hid fun W k => HRC.out.2.on (k2.then k) (by have := HRC.out.1; omega)
  have hRw : R + 2 ≤ w2.heap.size := by have := HRC.out.1; have := k2.size; omega
  have HRW := Lib.hid hRw
  clear k2 HK1 HRC hRw
  obtain ⟨P, hP⟩ : ∃ P, P = w2.heap.size := ⟨_, rfl⟩
  have HP := Lib.hid hP
  have HB0 : Hid (BoxS (w2.alloc (.cells #[.int .u64 0, .slice none 0 0] 57)) P (.int .u64 ((0 : Nat) : Int)) (.slice none 0 0)) := Lib.hid (by rw [hP]; exact ⟨by go_simp, by go_simp, by go_simp, by go_simp⟩)
  have HS0 : Hid (∀ W, SetV W (.agg #[.int .u64 ((0 : Nat) : Int), .slice none 0 0]) 0) := Lib.hid fun W => ⟨.slice none 0 0, [], rfl, Or.inl ⟨rfl, rfl⟩, ⟨rfl, by simp, Or.inl rfl⟩, fun _ => rfl⟩
  have HKP := Lib.hid (Kept.alloc (fun _ => False) w2 (.cells #[.int .u64 0, .slice none 0 0] 57))
  go_wp2_with fail
  rw [← hP]
  clear hP
  obtain ⟨w3, hw3⟩ : ∃ w3, w3 = w2.alloc (.cells #[.int .u64 0, .slice none 0 0] 57) := ⟨_, rfl⟩
  have hsz3 : w3.heap.size = P + 1 := by rw [hw3, HP.out]; simp
  rw [← hw3] at HB0 HKP ⊢
  have HI0 : Hid (M2I w2 w3 P none 0 [] 0 none 0 0 0) := Lib.hid ⟨OwnG.nil _ _ _, HB0.out, HS0.out _, RelB.zero.ext (fun x => rfl), (fun k hk => by
    obtain ⟨lo, hv, e, hk⟩ := hk
    have : hv = .slice none 0 0 := by simp at e; exact e.2.symm
    subst this; cases hk), HKP.out, by omega, by have := HP.out; omega⟩
  clear hw3 hsz3 HKP HB0 HS0
  go_loopw [5, 7, 8, 9] (fun tv iv _ _ wr => ∃ (k : Nat) (a : Option Addr) (c : Nat) (acc : List (Int × Int)) (lo : Nat) (b : Option Addr) (m kk M : Nat), k ≤ N ∧ k ≤ 6 ∧ iv = .int .i64 (k : Int) ∧ tv = .slice a acc.length c ∧ Hid (acc = (l.take k).map fit31 ∧ M2I w2 wr P a c acc lo b m kk M)) (fun _ iv _ _ _ => 7 - (intOf iv).toNat)
  case atStart => exact ⟨0, none, 0, [], 0, none, 0, 0, 0, Nat.zero_le _, by omega, rfl, rfl, Lib.hid ⟨rfl, HI0.out⟩⟩
  case round =>
    obtain ⟨k, a, c, acc, lo, b, m, kk, M, hk, hk6, rfl, rfl, hI⟩ := hrel
    clear HI0
    by_cases hlt : k < N
    · have l1 : (k : Int) < (N : Int) := by omega
      have l0 : (0 : Int) ≤ (k : Int) := by omega
      by_cases hl6 : k < 6
      · have l6 : (k : Int) < 6 := by omega
        have hkl : k < l.length := by have := HN.out; omega
        obtain ⟨g, off, rfl, hg, hc⟩ := (HV.out.on (HK2.out.then hI.out.2.kept)).at (k := k) hkl
        have htk : l.take (k + 1) = l.take k ++ [l.getD k (0, 0)] := by rw [List.take_add_one]; simp [List.getD, hkl]
        have hpb := HB.out (l.getD k (0, 0)) (by simp [List.getD, hkl])
        change AtG EU wr g (off + k * 2) (l.getD k (0, 0)) at hc
        generalize l.getD k (0, 0) = pr at hc htk hpb
        obtain ⟨x, y⟩ := pr
        obtain ⟨c0, c1⟩ := atEU hc
        simp only at c0 c1 hpb
        obtain ⟨b1, b2⟩ := hpb
        obtain ⟨u, hu⟩ : ∃ u, u = x % 301 := ⟨_, rfl⟩
        obtain ⟨v, hv⟩ : ∃ v, v = y % 301 := ⟨_, rfl⟩
        obtain ⟨p, hp⟩ : ∃ s, s = min u v := ⟨_, rfl⟩
        obtain ⟨q, hq⟩ : ∃ t, t = max u v := ⟨_, rfl⟩
        have hq3 : q ≤ 300 := by omega
        have hpq : p ≤ q := by omega
        have hu3 : u ≤ 300 := by omega
        have hv3 : v ≤ 300 := by omega
        have m1 : (x : Int).tmod 301 = (u : Int) := by rw [Int.tmod_eq_emod_of_nonneg (by omega)]; omega
        have m2 : (x : Int) % 301 = (u : Int) := by omega
        have m3 : (y : Int).tmod 301 = (v : Int) := by rw [Int.tmod_eq_emod_of_nonneg (by omega)]; omega
        have m4 : (y : Int) % 301 = (v : Int) := by omega
        have n1 : min (u : Int) (v : Int) = (p : Int) := by omega
        have n2 : max (u : Int) (v : Int) = (q : Int) := by omega
        have w1' : IntKind.i64.wrap (u : Int) = (u : Int) := by rw [IntKind.wrap_i64]; omega
        have w2' : IntKind.i64.wrap (v : Int) = (v : Int) := by rw [IntKind.wrap_i64]; omega
        have HAC : Hid (acc ++ [((p : Int), (q : Int))] = (l.take (k + 1)).map fit31) := Lib.hid (by rw [htk, List.map_append, ← hI.out.1, hp, hq, hu, hv]; rfl)
        have HAL : Hid (acc.length ≤ 6) := Lib.hid (by rw [hI.out.1, List.length_map, List.length_take]; omega)
        have HQ1 : Hid (((q : Int) + 1) = ((q + 1 : Nat) : Int)) := Lib.hid (by omega)
        have HQ3 := Lib.hid hq3; have HPQ := Lib.hid hpq
        clear hc hg htk hu hv hp hq hpq
        go_wp2_with fail
        go_quiet (fail)
        have kd := (Kept.refl (fun _ => False) wr).drewN nq
        have HM := Lib.hid (hI.out.2.on kd)
        clear kd hI c0 c1 m1 m2 m3 m4 w1' w2'
        generalize wr.drewN nq = W2 at *
        go_wp2_with (first
          | (at_builtin; refine wpList_pushG Tryd.underlying31 info_span rfl (by omega) (by simp [Region.wanted, yielded]) _ _ rfl rfl (P + 1) _ _ acc [((p : Int), (q : Int))] rfl rfl (HM.out.row.alloc _) (RowG.new W2 #[.int .i64 (p : Int), .int .i64 (q : Int)] 62 1 [((p : Int), (q : Int))] rfl rfl (by unfold maxLen; omega)) (by have := HAL.out; simp; omega) (by have := HM.out.big; simp; omega) ?_; intro a' c' w4 hown4 hk4 hat4; have HX := Lib.hid (HM.out.push hown4 hk4 hat4); clear hown4 hk4 hat4)
          | fail)
        have HC : Hid (∀ W, Kept (fun _ => False) w4 W → BoxS W P (.int .u64 (lo : Int)) (.slice b m kk)) := Lib.hid fun W kw => HX.out.box.kept kw (fun h => h)
        obtain ⟨M1, hM1⟩ : ∃ M, M = 2 ^ clampN ((q + 1 : Nat) : Int) - 1 := ⟨_, rfl⟩
        obtain ⟨M2, hM2⟩ : ∃ M, M = 2 ^ clampN (p : Int) - 1 := ⟨_, rfl⟩
        have hrel := RelB.span HX.out.rel p q HQ3.out HPQ.out
        have sm1 := (RelB.below (q + 1) (by have := HQ3.out; omega)).small
        have sm2 := (RelB.below p (by have := HQ3.out; have := HPQ.out; omega)).small
        rw [← hM1] at sm1 hrel
        rw [← hM2] at sm2 hrel
        have HBQ : Hid (∀ W, Kept (fun _ => False) w4 W → Calls Tryd.prog 33 #[.int .i64 ((q : Int) + 1)] W fun e w' => ∃ v, e = .returned v ∧ SetV w' v M1 ∧ (∀ k, setBlk v k → w4.heap.size ≤ k) ∧ Kept (fun _ => False) w4 w' ∧ Kept (fun _ => False) W w') := Lib.hid fun W kw => (below_any W ((q : Int) + 1)).mono (by
          rintro e w' ⟨v, rfl, hs, ht, k9⟩
          exact ⟨v, rfl, by rw [hM1, ← HQ1.out]; exact hs, fun k hk => Nat.le_trans kw.size (ht k hk), kw.then k9, k9⟩)
        have HBP : Hid (∀ W, Kept (fun _ => False) w4 W → Calls Tryd.prog 33 #[.int .i64 (p : Int)] W fun e w' => ∃ v, e = .returned v ∧ SetV w' v M2 ∧ (∀ k, setBlk v k → w4.heap.size ≤ k) ∧ Kept (fun _ => False) w4 w' ∧ Kept (fun _ => False) W w') := Lib.hid fun W kw => (below_any W (p : Int)).mono (by
          rintro e w' ⟨v, rfl, hs, ht, k9⟩
          exact ⟨v, rfl, by rw [hM2]; exact hs, fun k hk => Nat.le_trans kw.size (ht k hk), kw.then k9, k9⟩)
        have HMI : Hid (∀ W v u, SetV W v M1 → SetV W u M2 → (∀ k, setBlk v k → w4.heap.size ≤ k) → Kept (fun _ => False) w4 W → Calls Tryd.prog 34 #[v, u] W fun e w' => ∃ x, e = .returned x ∧ SetV w' x (anN M1 M2) ∧ (∀ k, setBlk x k → w4.heap.size ≤ k) ∧ Kept (fun _ => False) w4 w' ∧ Kept (fun _ => False) W w') := Lib.hid fun W v u hv hu ht kw => (minus_any W v u M1 M2 hv hu sm1 sm2).mono (by
          rintro e w' ⟨x, rfl, hs, ht2, k9⟩
          exact ⟨x, rfl, hs, fun k hk => (ht2 k hk).elim (ht k) (fun h => Nat.le_trans kw.size h), kw.then k9, k9⟩)
        have smN : Small (anN M1 M2) := small_an sm1
        have HOR : Hid (∀ W v, SetV W v (anN M1 M2) → (∀ k, setBlk v k → w4.heap.size ≤ k) → Kept (fun _ => False) w4 W → Calls Tryd.prog 32 #[.agg #[.int .u64 (lo : Int), .slice b m kk], v] W fun e w' => ∃ (lo4 : Nat) (b4 : Option Addr) (m4 c4 : Nat), e = .returned (.agg #[.int .u64 (lo4 : Int), .slice b4 m4 c4]) ∧ SetV w' (.agg #[.int .u64 (lo4 : Int), .slice b4 m4 c4]) (M ||| anN M1 M2) ∧ (∀ k, setBlk (.agg #[.int .u64 (lo4 : Int), .slice b4 m4 c4]) k → setBlk (.agg #[.int .u64 (lo : Int), .slice b m kk]) k ∨ w4.heap.size ≤ k) ∧ Kept (fun _ => False) w4 w' ∧ Kept (fun _ => False) W w') := Lib.hid fun W v hv ht kw => (or_any W _ v M (anN M1 M2) (HX.out.set.onD kw) hv HX.out.rel.small smN).mono (by
          rintro e w' ⟨x, rfl, hs, ht2, k9⟩
          obtain ⟨lo4, b4, m4, c4, rfl⟩ := hs.formD
          exact ⟨lo4, b4, m4, c4, rfl, hs, fun k hk => (ht2 k hk).imp id (fun h => h.elim (ht k) (fun h => Nat.le_trans kw.size h)), kw.then k9, k9⟩)
        have HREL := Lib.hid hrel
        have wq : IntKind.i64.wrap ((q : Int) + 1) = (q : Int) + 1 := by rw [IntKind.wrap_i64]; omega
        clear hM1 hM2 sm1 sm2 smN hrel HM n1 n2 b1 b2 hu3 hv3 hq3
        obtain ⟨cp0, cp1, fp0, fp1⟩ := HC.out w4 (Kept.refl _ _)
        go_region_with ((first | (go_at_call 33; with_reducible refine (HBQ.out _ (show Kept (fun _ => False) w4 _ from by first | exact KA.out | exact Kept.refl _ _ | exact (Kept.refl _ _).drew)).mono ?_; rintro e q1 ⟨v1, rfl, s1, t1, kk1, j1⟩; have S1 := Lib.hid s1; have T1 := Lib.hid t1; clear s1 t1 j1; (try clear KA); have KA := Lib.hid kk1; clear kk1 cp0 cp1 fp0 fp1; obtain ⟨cp0, cp1, fp0, fp1⟩ := HC.out _ KA.out) | (go_at_call 33; with_reducible refine (HBP.out _ (show Kept (fun _ => False) w4 _ from by first | exact KA.out | exact Kept.refl _ _ | exact (Kept.refl _ _).drew)).mono ?_; rintro e q2 ⟨v2, rfl, s2, t2, kk2, j2⟩; have S2 := Lib.hid s2; have S1b := Lib.hid (S1.out.onD j2); clear S1; have S1 := S1b; clear S1b s2 t2 j2; (try clear KA); have KA := Lib.hid kk2; clear kk2 cp0 cp1 fp0 fp1; obtain ⟨cp0, cp1, fp0, fp1⟩ := HC.out _ KA.out) | (go_at_call 34; with_reducible refine (HMI.out _ v1 v2 S1.out S2.out T1.out (show Kept (fun _ => False) w4 _ from by first | exact KA.out | exact Kept.refl _ _ | exact (Kept.refl _ _).drew)).mono ?_; rintro e q3 ⟨v3, rfl, s3, t3, kk3, j3⟩; have S3 := Lib.hid s3; have T3 := Lib.hid t3; clear s3 t3 j3; (try clear KA); have KA := Lib.hid kk3; clear kk3 cp0 cp1 fp0 fp1; obtain ⟨cp0, cp1, fp0, fp1⟩ := HC.out _ KA.out) | (go_at_call 32; with_reducible refine (HOR.out _ v3 S3.out T3.out (show Kept (fun _ => False) w4 _ from by first | exact KA.out | exact Kept.refl _ _ | exact (Kept.refl _ _).drew)).mono ?_; rintro e q4 ⟨lo4, b4, m4, c4, rfl, s4, t4, kk4, j4⟩; have S4 := Lib.hid s4; have T4 := Lib.hid t4; clear s4 t4 j4; (try clear KA); have KA := Lib.hid kk4; clear kk4 cp0 cp1 fp0 fp1; obtain ⟨cp0, cp1, fp0, fp1⟩ := HC.out _ KA.out)))
        all_goals
          have HNEW := Lib.hid (HX.out.next KA.out S4.out T4.out HREL.out)
          have HLN : Hid ((acc ++ [((p : Int), (q : Int))]).length = acc.length + 1) := Lib.hid (by rw [List.length_append]; rfl)
          clear S1 S2 S3 S4 T1 T3 T4 HX KA cp0 cp1 fp0 fp1 HBQ HBP HMI HOR HREL HC
          go_wp2_with fail
          go_roundw
          case rel => exact ⟨k + 1, a', c', acc ++ [((p : Int), (q : Int))], lo4, b4, m4, c4, _, by omega, by omega, by go_num, by first | rfl | (rw [HLN.out]), Lib.hid ⟨HAC.out, HNEW.out⟩⟩
          case measure => simp [intOf]; omega
      · have l6 : ¬ ((k : Int) < 6) := by omega
        have HE : Hid (acc = fit3 l) := Lib.hid (by rw [hI.out.1, show k = 6 by omega]; rfl)
        have HAL : Hid (acc.length ≤ 6) := Lib.hid (by rw [hI.out.1, List.length_map, List.length_take]; omega)
        have HK6 := Lib.hid hI.out.2
        have HOKF := Lib.hid (fit3_ok (l.take 6))
        rw [show (l.take 6).map fit31 = fit3 l from rfl] at HOKF
        go_wp2_with fail
        refine (ofD_any _ _ acc HK6.out.row.row (by have := HE.out; have := HAL.out; omega)).mono ?_
        rintro e w8 ⟨sv, rfl, k8, hor⟩
        have hez : errD acc = 0 := errD_zero fun p hp => (HOKF.out p (by rw [← HE.out]; exact hp)).1
        rcases hor with ⟨_, t, hset, hin⟩ | ⟨hne, _⟩
        rotate_left
        · exact absurd hez hne
        obtain ⟨row, rfl, hr, hcn⟩ := hset
        obtain ⟨ta, tc, rfl, _, _⟩ := hr.form
        rw [hez]
        obtain ⟨tn, htn⟩ : ∃ n, n = t.length := ⟨_, rfl⟩
        rw [← htn] at hr ⊢
        have HI8 := Lib.hid (HK6.out.on k8)
        have HA8 := Lib.hid (Kept.alloc (fun _ => False) w8 (.cells #[.slice ta tn tc] 27))
        have cq : (w8.alloc (.cells #[.slice ta tn tc] 27)).cell? ⟨w8.heap.size, 0, none⟩ = some (.slice ta tn tc) := by go_simp
        have HR9 := Lib.hid hr; have HIN := Lib.hid hin; have HCN := Lib.hid hcn
        clear hr hin hcn k8 htn hez HK6
        go_wp2_with fail
        obtain ⟨w9, hw9⟩ : ∃ w9, w9 = w8.alloc (.cells #[.slice ta tn tc] 27) := ⟨_, rfl⟩
        obtain ⟨Q9, hQ9⟩ : ∃ Q, Q = w8.heap.size := ⟨_, rfl⟩
        rw [← hw9] at HA8 cq ⊢
        rw [← hQ9] at cq ⊢
        have HI9 := Lib.hid (HI8.out.on HA8.out)
        have HROW := Lib.hid (HR9.out.on HA8.out)
        have hQP : P + 1 ≤ Q9 := by rw [hQ9]; exact HI8.out.big
        clear hw9 hQ9 HA8 HI8 HR9
        obtain ⟨cp0, cp1, fp0, fp1⟩ := HI9.out.box
        obtain ⟨r0, r1, r2, g0, g1, g2⟩ := HRR.out w9 HI9.out.kept
        have hRP : R + 2 ≤ P := by have := HRW.out; have := HP.out; omega
        have nA : ¬ R = R + 1 := by omega
        have nB : ¬ R + 1 = R := by omega
        have nC : ¬ R = P := by omega
        have nD : ¬ P = R := by omega
        have nE : ¬ R + 1 = P := by omega
        have nF : ¬ P = R + 1 := by omega
        have nG : ¬ Q9 = R := by omega
        have nH : ¬ R = Q9 := by omega
        have nI : ¬ Q9 = R + 1 := by omega
        have nJ : ¬ R + 1 = Q9 := by omega
        have HFIN : Hid (∀ W, W = (((w9.setCell ⟨R, 0, none⟩ (.slice ta tn tc)).setCell ⟨R + 1, 0, none⟩ (.int .u64 (lo : Int))).setCell ⟨R + 1, 1, none⟩ (.slice b m kk)).drew → W.cell? ⟨R, 0, none⟩ = some (.slice ta tn tc) ∧ W.cell? ⟨R + 1, 0, none⟩ = some (.int .u64 (lo : Int)) ∧ W.cell? ⟨R + 1, 1, none⟩ = some (.slice b m kk) ∧ MemD W (.agg #[.slice ta tn tc]) (spanIn (fit3 l)) ∧ SetV W (.agg #[.int .u64 (lo : Int), .slice b m kk]) M ∧ RelB M (spanIn (fit3 l)) ∧ Kept (fun _ => False) w0 W) := Lib.hid (by
          rintro W rfl
          obtain ⟨x0, x1, x2, xk, xa, xb⟩ := (HRR.out w9 HI9.out.kept).put (.slice ta tn tc) (.int .u64 (lo : Int)) (.slice b m kk)
          have kd := (Kept.refl (fun _ => False) (((w9.setCell ⟨R, 0, none⟩ (.slice ta tn tc)).setCell ⟨R + 1, 0, none⟩ (.int .u64 (lo : Int))).setCell ⟨R + 1, 1, none⟩ (.slice b m kk))).drew
          refine ⟨x0, x1, x2, ⟨t, ⟨_, rfl, ?_, HCN.out⟩, fun d _ _ => by rw [HIN.out, HE.out]⟩, (HI9.out.set.keptD xk (fun i hi e => by have := (HI9.out.sep i hi).1; omega)).onD kd, by rw [← HE.out]; exact HI9.out.rel, ?_⟩
          · exact (rowI_setCell (rowI_setCell (rowI_setCell HROW.out (HRR.out w9 HI9.out.kept).r0 (fun n h => by cases h)) xa (fun n h => by cases h)) xb (fun n h => by cases h)).on kd
          · exact (((HK2.out.then HI9.out.kept).trans xk (fun _ _ h => h) (fun i hi e => by have := HR.out; omega))).then kd)
        go_region_with (fail)
        all_goals
          obtain ⟨z0, z1, z2, z3, z4, z5, z6⟩ := HFIN.out _ rfl
          have Z3 := Lib.hid z3; have Z4 := Lib.hid z4; have Z5 := Lib.hid z5; have Z6 := Lib.hid z6
          clear z3 z4 z5 z6 cp0 cp1 fp0 fp1 r0 r1 r2 g0 g1 g2 cq
          go_wp2_with fail
          refine bodyPost_ret (v := .tuple #[.agg #[.slice ta tn tc], .agg #[.int .u64 (lo : Int), .slice b m kk], .bool true]) (by simp [results, Tryd.results30, go_sem, z0, z1, z2]) rfl ⟨_, _, _, _, _, _, _, _, rfl, Z3.out, Z4.out, Z5.out, Z6.out⟩
    · have l1 : ¬ ((k : Int) < (N : Int)) := by omega
      have HE : Hid (acc = fit3 l) := Lib.hid (by
        rw [hI.out.1]
        unfold fit3
        rw [List.take_of_length_le (by have := HN.out; omega), List.take_of_length_le (by have := HN.out; omega)])
      have HAL : Hid (acc.length ≤ 6) := Lib.hid (by rw [hI.out.1, List.length_map, List.length_take]; omega)
      have HK6 := Lib.hid hI.out.2
      have HOKF := Lib.hid (fit3_ok (l.take 6))
      rw [show (l.take 6).map fit31 = fit3 l from rfl] at HOKF
      go_wp2_with fail
      refine (ofD_any _ _ acc HK6.out.row.row (by have := HE.out; have := HAL.out; omega)).mono ?_
      rintro e w8 ⟨sv, rfl, k8, hor⟩
      have hez : errD acc = 0 := errD_zero fun p hp => (HOKF.out p (by rw [← HE.out]; exact hp)).1
      rcases hor with ⟨_, t, hset, hin⟩ | ⟨hne, _⟩
      rotate_left
      · exact absurd hez hne
      obtain ⟨row, rfl, hr, hcn⟩ := hset
      obtain ⟨ta, tc, rfl, _, _⟩ := hr.form
      rw [hez]
      obtain ⟨tn, htn⟩ : ∃ n, n = t.length := ⟨_, rfl⟩
      rw [← htn] at hr ⊢
      have HI8 := Lib.hid (HK6.out.on k8)
      have HA8 := Lib.hid (Kept.alloc (fun _ => False) w8 (.cells #[.slice ta tn tc] 27))
      have cq : (w8.alloc (.cells #[.slice ta tn tc] 27)).cell? ⟨w8.heap.size, 0, none⟩ = some (.slice ta tn tc) := by go_simp
      have HR9 := Lib.hid hr; have HIN := Lib.hid hin; have HCN := Lib.hid hcn
      clear hr hin hcn k8 htn hez HK6
      go_wp2_with fail
      obtain ⟨w9, hw9⟩ : ∃ w9, w9 = w8.alloc (.cells #[.slice ta tn tc] 27) := ⟨_, rfl⟩
      obtain ⟨Q9, hQ9⟩ : ∃ Q, Q = w8.heap.size := ⟨_, rfl⟩
      rw [← hw9] at HA8 cq ⊢
      rw [← hQ9] at cq ⊢
      have HI9 := Lib.hid (HI8.out.on HA8.out)
      have HROW := Lib.hid (HR9.out.on HA8.out)
      have hQP : P + 1 ≤ Q9 := by rw [hQ9]; exact HI8.out.big
      clear hw9 hQ9 HA8 HI8 HR9
      obtain ⟨cp0, cp1, fp0, fp1⟩ := HI9.out.box
      obtain ⟨r0, r1, r2, g0, g1, g2⟩ := HRR.out w9 HI9.out.kept
      have hRP : R + 2 ≤ P := by have := HRW.out; have := HP.out; omega
      have nA : ¬ R = R + 1 := by omega
      have nB : ¬ R + 1 = R := by omega
      have nC : ¬ R = P := by omega
      have nD : ¬ P = R := by omega
      have nE : ¬ R + 1 = P := by omega
      have nF : ¬ P = R + 1 := by omega
      have nG : ¬ Q9 = R := by omega
      have nH : ¬ R = Q9 := by omega
      have nI : ¬ Q9 = R + 1 := by omega
      have nJ : ¬ R + 1 = Q9 := by omega
      have HFIN : Hid (∀ W, W = (((w9.setCell ⟨R, 0, none⟩ (.slice ta tn tc)).setCell ⟨R + 1, 0, none⟩ (.int .u64 (lo : Int))).setCell ⟨R + 1, 1, none⟩ (.slice b m kk)).drew → W.cell? ⟨R, 0, none⟩ = some (.slice ta tn tc) ∧ W.cell? ⟨R + 1, 0, none⟩ = some (.int .u64 (lo : Int)) ∧ W.cell? ⟨R + 1, 1, none⟩ = some (.slice b m kk) ∧ MemD W (.agg #[.slice ta tn tc]) (spanIn (fit3 l)) ∧ SetV W (.agg #[.int .u64 (lo : Int), .slice b m kk]) M ∧ RelB M (spanIn (fit3 l)) ∧ Kept (fun _ => False) w0 W) := Lib.hid (by
        rintro W rfl
        obtain ⟨x0, x1, x2, xk, xa, xb⟩ := (HRR.out w9 HI9.out.kept).put (.slice ta tn tc) (.int .u64 (lo : Int)) (.slice b m kk)
        have kd := (Kept.refl (fun _ => False) (((w9.setCell ⟨R, 0, none⟩ (.slice ta tn tc)).setCell ⟨R + 1, 0, none⟩ (.int .u64 (lo : Int))).setCell ⟨R + 1, 1, none⟩ (.slice b m kk))).drew
        refine ⟨x0, x1, x2, ⟨t, ⟨_, rfl, ?_, HCN.out⟩, fun d _ _ => by rw [HIN.out, HE.out]⟩, (HI9.out.set.keptD xk (fun i hi e => by have := (HI9.out.sep i hi).1; omega)).onD kd, by rw [← HE.out]; exact HI9.out.rel, ?_⟩
        · exact (rowI_setCell (rowI_setCell (rowI_setCell HROW.out (HRR.out w9 HI9.out.kept).r0 (fun n h => by cases h)) xa (fun n h => by cases h)) xb (fun n h => by cases h)).on kd
        · exact (((HK2.out.then HI9.out.kept).trans xk (fun _ _ h => h) (fun i hi e => by have := HR.out; omega))).then kd)
      go_region_with (fail)
      all_goals
        obtain ⟨z0, z1, z2, z3, z4, z5, z6⟩ := HFIN.out _ rfl
        have Z3 := Lib.hid z3; have Z4 := Lib.hid z4; have Z5 := Lib.hid z5; have Z6 := Lib.hid z6
        clear z3 z4 z5 z6 cp0 cp1 fp0 fp1 r0 r1 r2 g0 g1 g2 cq
        go_wp2_with fail
        refine bodyPost_ret (v := .tuple #[.agg #[.slice ta tn tc], .agg #[.int .u64 (lo : Int), .slice b m kk], .bool true]) (by simp [results, Tryd.results30, go_sem, z0, z1, z2]) rfl ⟨_, _, _, _, _, _, _, _, rfl, Z3.out, Z4.out, Z5.out, Z6.out⟩
end Go.Proofs.YtjglnpijngdpkaaDoor
