import Derived.Test.YtjglnpijngdpkaaGreatDoorDySq
import Derived.Test.YtjglnpijngdpkaaGreatDoorDySo
import Derived.Test.YtjglnpijngdpkaaGreatDoorGRound
import Derived.Test.YtjglnpijngdpkaaGreatDoorGApp
/-
  Days: the spans of a set.
-/
namespace Go.Proofs.YtjglnpijngdpkaaGreatDoor
open Go.RowKit Go.Shelf
attribute [local go_sem] Oper.semAt_some
set_option linter.unusedSimpArgs false
set_option linter.unusedVariables false
set_option maxRecDepth 100000

/-- The span that begins with turn number 2k. -/
def spAt (t : List Int) (k : Nat) : Int × Int := (t.getD (2 * k) 0, t.getD (2 * k + 1) 0 - 1)
theorem spansD_take {t : List Int} {m : Nat} (h : t.length = 2 * m) : ∀ k, k ≤ m → (upF m k).map (fun x => spAt t x.1) = (spansD t).take k
  | 0, _ => rfl
  | k + 1, hk => by
    have e := spansD_at t k (by omega)
    rw [upF_succ hk, List.map_append, spansD_take h k (by omega), List.take_add_one, e]
    rfl
theorem spansD_upF {t : List Int} {m : Nat} (h : t.length = 2 * m) : (upF m m).map (fun x => spAt t x.1) = spansD t := by
  rw [spansD_take h m (Nat.le_refl _), List.take_of_length_le (by rw [spansD_len]; omega)]
/-- Where the row may lie that the loop gathers: the block that it began with, or a new one; its box. -/
def SpS (a b k : Nat) : Prop := k = a ∨ k = b
/-- What has been gathered. -/
def SpI (t : List Int) (m a b : Nat) (w1 : World) (pre : List (Fin m)) (W : World) : Prop :=
  (∃ v, Boxed W b 46 v ∧ OwnG ESp 49 a W v (pre.map fun x => spAt t x.1) ∧ ∀ k, v.ownBlock = some k → k = a ∨ b + 3 ≤ k) ∧ KeepM (SpS a b) (b + 3) w1 W
theorem spI_own (t : List Int) (m a b : Nat) (w1 : World) (B : Nat) (hB : b + 3 ≤ B) : OwnFrom B (SpI t m a b w1) := by
  refine OwnFrom.and (Own.from (holdsRow_own a b 46 49 ESp.z (fun pre : List (Fin m) => (pre.map fun x => spAt t x.1).length) (fun pre : List (Fin m) => flatG ESp (pre.map fun x => spAt t x.1)) (fun _ v => ∀ k, v.ownBlock = some k → k = a ∨ b + 3 ≤ k)) _) (ownFrom_keepM hB)
theorem own_block_z {W : World} {B : Nat} {e : TypeId} {z : Nat} {v : Value} {k : Nat} {xs : List Value} (h : W.ownsRow B e z v k xs) : ∀ r, v.ownBlock = some r → ∃ c, W.heap[r]? = some (.cells c e (0, 0)) := fun r hr => by
  rcases h.2 with ⟨rfl, _⟩ | ⟨g, cap, cur, rfl, _, hg, _⟩
  · cases hr
  · have : g = r := by simpa [Value.ownBlock] using hr
    subst this
    exact ⟨_, hg⟩

theorem KeepM.drew {S : Nat → Prop} {M : Nat} (a : World) : KeepM S M a a.drew := ⟨rfl, rfl, rfl, Nat.le_refl _, fun _ _ _ _ => rfl⟩
theorem spMake {w0 w1 : World} {x : Value} {T T2 : TypeId} {e : TypeId} {z m : Nat} (hown1 : w1.ownsRow (w0.heap.size + 1) e z (.slice (some ⟨(w0.alloc (.cells #[x] T)).heap.size, 0, none⟩) 0 m) 0 []) (hgrow1 : (w0.alloc (.cells #[x] T)).grownBy w1 none) :
    w1.cell? ⟨w0.heap.size, 0, none⟩ = some x ∧ w0.heap.size + 2 ≤ w1.heap.size ∧ (w1.alloc (.cells #[.slice (some ⟨w0.heap.size + 1, 0, none⟩) 0 m] T2)).cell? ⟨w0.heap.size, 0, none⟩ = some x := by
  have h1 : w1.cell? ⟨w0.heap.size, 0, none⟩ = some x := by
    have hb := hgrow1.block w0.heap.size (by simp) (fun e => by cases e)
    refine (World.cell?_of_block hb).trans ?_
    go_simp
  have h2 := (hown1.lt (w0.alloc (.cells #[x] T)).heap.size rfl).2
  have h3 : (w0.alloc (.cells #[x] T)).heap.size = w0.heap.size + 1 := by simp
  exact ⟨h1, by omega, (World.cell?_alloc_lt _ _ _ (by show w0.heap.size < w1.heap.size; omega)).trans h1⟩
set_option maxHeartbeats 3200000 in
theorem spansP_any (w0 : World) (s : Value) (t : List Int) (hs : SetD w0 s t) :
    Calls Tryz.prog 18 #[s] w0 fun e w' => ∃ u, e = .returned u ∧ OwnG ESp 49 w0.heap.size w' u (spansD t) ∧ Kept (fun _ => False) w0 w' := by
  obtain ⟨row, rfl, hrow, hcan⟩ := hs
  obtain ⟨ra, rc, rfl, hnc, hcm⟩ := hrow.form
  obtain ⟨m, hm⟩ : ∃ m, t.length = 2 * m := ⟨t.length / 2, by have := hcan.even; omega⟩
  have hlen := hcan.len
  obtain ⟨n, hn⟩ : ∃ n, n = t.length := ⟨_, rfl⟩
  rw [← hn] at hnc hlen hrow
  have hnm : n = 2 * m := by omega
  unfold maxLen at hcm
  have hmb : m ≤ 15001 := by omega
  obtain ⟨g, off, hra⟩ : ∃ g off, 0 < m → ra = some ⟨g, off, none⟩ ∧ g < w0.heap.size := by
    by_cases h0 : 0 < m
    · obtain ⟨g, off, e, hg, _⟩ := hrow.at (k := 0) (by omega)
      exact ⟨g, off, fun _ => ⟨e, hg⟩⟩
    · exact ⟨0, 0, fun h => absurd h h0⟩
  obtain ⟨i0, hi, hz0, hz1, hz2⟩ := info_parts info_span
  have q1 : (n : Int).tdiv 2 = (m : Int) := by rw [hnm, Int.tdiv_eq_ediv_of_nonneg (by omega)]; omega
  have q2 : (n : Int) / 2 = (m : Int) := by omega
  have HROW := Lib.hid hrow; have HCAN := Lib.hid hcan; have HM := Lib.hid hm; have HN := Lib.hid hn; have HRA := Lib.hid hra; have HNM := Lib.hid hnm
  clear hrow hcan hm hn hra hnm
  refine (callsIn_wide (n := 3)).1 ?_
  refine callsIn_of_wp_marks Tryz.func18 rfl trivial ?_ rfl
  simp only [Tryz.ntmps18, List.size_toArray, List.length_cons, List.length_nil, Nat.reduceAdd, Nat.reduceSub, Array.replicate_succ, Array.replicate_zero, List.push_toArray, List.append_toArray, List.nil_append, List.cons_append]
  rw [← HN.out]
  gi_wp2_with (first
    | (gi_at_make; refine wpListIn_make_own _ rfl _ _ 46 rfl (w0.heap.size + 1) 49 i0 (.agg #[.int .i64 0, .int .i64 0]) 2 Tryz.underlying46 hi hz0 hz1 .i64 .i64 (m : Int) m rfl rfl rfl (by rw [hz2]; omega) (by unfold maxLen; omega) (by simp) ?_; intro w1 hown1 hgrow1; obtain ⟨hcb, hsz1, hcb2⟩ := spMake (T2 := 46) hown1 hgrow1)
    | (refine ⟨trivial, ?_⟩; gi_at_call 44; refine (callsIn_wide.2 (chunk_any _ _ _ _)).mono ?_; rintro e w2 ⟨rfl, hw2⟩))
  rw [← hw2]
  obtain ⟨b, hb⟩ : ∃ b, b = w1.heap.size := ⟨_, rfl⟩
  have hbx : Boxed w2 b 46 (.slice (some ⟨w0.heap.size + 1, 0, none⟩) 0 m) := by rw [hb, hw2]; exact ((Boxed.new w1 46 _).alloc _).alloc _
  have hro : OwnG ESp 49 (w0.heap.size + 1) w2 (.slice (some ⟨w0.heap.size + 1, 0, none⟩) 0 m) [] := by
    have h9 : OwnG ESp 49 (w0.heap.size + 1) w1 (.slice (some ⟨w0.heap.size + 1, 0, none⟩) 0 m) [] := by
      have h8 : (w0.alloc (.cells #[.slice ra n rc] 26)).heap.size = w0.heap.size + 1 := by simp
      rw [h8] at hown1
      exact hown1
    rw [hw2]; exact ((h9.alloc _).alloc _).alloc _
  have hchA : ChAt w2 (b + 1) (b + 1 + 1) (.slice ra n rc) := by
    rw [hb, hw2]
    constructor
    · refine (World.cell?_alloc_lt _ _ _ (by simp)).trans ?_
      go_simp
    · go_simp
  have hK2 : Kept (fun _ => False) w0 w2 := by
    rw [hw2]
    exact ((((Kept.alloc _ _ _).then (Kept.ofGrown (S := fun _ => False) hgrow1 fun k e => by cases e)).then (Kept.alloc _ _ _)).then (Kept.alloc _ _ _)).then (Kept.alloc _ _ _)
  have hsz2 : w2.heap.size = b + 3 := by rw [hw2, hb]; simp
  have hbH : w0.heap.size + 2 ≤ b := by rw [hb]; exact hsz1
  rw [← hb]
  have HK2 := Lib.hid hK2; have HB := Lib.hid hb; have HW2 := Lib.hid hw2
  clear hb hw2 hK2 hown1 hgrow1 hcb hcb2 hsz1
  have hS := chunk_stops (SpS (w0.heap.size + 1) b) (b + 3) (b + 1) (b + 1 + 1) g off m n rc ra (fun h => (HRA.out h).1) w2 HNM.out (by omega) hnc (by omega) hchA (by omega) (by unfold SpS; omega) (by omega) (by unfold SpS; omega)
  obtain ⟨b1, hb1⟩ : ∃ b1, b1 = b + 1 := ⟨_, rfl⟩
  obtain ⟨b2, hb2⟩ : ∃ b2, b2 = b1 + 1 := ⟨_, rfl⟩
  rw [← hb1, ← hb2] at hS ⊢
  clear hb1 hb2 hchA
  obtain ⟨r1, hr1⟩ : ∃ r1, r1 = w0.heap.size + 1 := ⟨_, rfl⟩
  rw [← hr1] at hS hbx hro ⊢
  have HR1 := Lib.hid hr1
  clear hr1
  refine wpIn_rangeFunc_ownG rfl (by omega) (gf := 66) (lb := #[.pointer (some ⟨b1, 0, none⟩), .pointer (some ⟨b2, 0, none⟩)]) rfl trivial (enters_of Tryz.func66 (by kernel_rfl) rfl)
    hS KeepM.trans (fun W l o o' hl h h1 h2 => KeepM.putB W l o o' (by rw [hsz2] at hl; exact hl) h h1 h2) (Below.refl _ _) (fun _ => rfl)
    (SpI t m r1 b w2) (fun _ _ _ => False) (spI_own t m r1 b w2 _ (by omega)) (fun _ _ _ _ _ hs _ _ => hs)
    ⟨⟨_, hbx, hro, fun k hk => Or.inl (by simpa [Value.ownBlock] using hk.symm)⟩, KeepM.refl _ _ _⟩
    (fun x => { tmps := #[.agg #[.slice ra n rc], .pointer (some ⟨w0.heap.size, 0, none⟩), .slice none 0 0, .pointer (some ⟨b, 0, none⟩), .slice (some ⟨g, off + 2 * x.1, none⟩) 2 2, .pointer (some ⟨w0.heap.size, 0, none⟩), .slice ra n rc, .int .i64 n, .int .i64 m, .slice (some ⟨r1, 0, none⟩) 0 m, .pointer (some ⟨w0.heap.size, 0, none⟩), .slice ra n rc, .func (.func 66) #[] #[.pointer (some ⟨b1, 0, none⟩), .pointer (some ⟨b2, 0, none⟩)], .slice (some ⟨g, off + 2 * x.1, none⟩) 2 2, undef, undef, undef, undef, undef, undef, undef, undef, undef, undef, undef, undef], defers := [] }) ?assign ?body ?done ?stop
  case assign =>
    intro l x W K hK
    gi_wp2
    exact hK
  case body =>
    rintro l pre ⟨x, hx⟩ W ⟨⟨v, hbv, hown, hat⟩, hkm⟩ hlt
    have hmix : Tryz.prog.follows .mixedOrders = true := by kernel_rfl
    have hWs := hkm.size
    have hxn : 2 * x + 1 < t.length := by have := HM.out; omega
    obtain ⟨hra, hg⟩ := HRA.out (by omega)
    have hgc : ∀ j, W.cell? ⟨g, j, none⟩ = w0.cell? ⟨g, j, none⟩ := fun j => by
      have h1 := hkm.block g (by omega) (by omega) (by unfold SpS; have := HR1.out; omega)
      exact (World.cell?_of_block h1).trans (HK2.out.cell (p := ⟨g, j, none⟩) hg (fun h => h))
    have hcl : ∀ j, j < t.length → W.cell? ⟨g, off + j, none⟩ = some (.int .i64 (t.getD j 0)) := fun j hj => by
      obtain ⟨g', off', e, _, ha⟩ := HROW.out.at (k := j) hj
      rw [hra] at e
      obtain ⟨rfl, rfl⟩ : g = g' ∧ off = off' := by injection e with e; injection e with h1 h2; exact ⟨h1, h2⟩
      rw [hgc]
      have := atEI ha
      rwa [show EI.z = 1 from rfl, Nat.mul_one] at this
    have c0 := hcl (2 * x) (by omega)
    have c1 := hcl (2 * x + 1) hxn
    rw [← Nat.add_assoc] at c1
    have hp2 : t.getD (2 * x + 1) 0 ∈ t := by
      rw [List.getD_eq_getElem?_getD, List.getElem?_eq_getElem hxn]; simp
    have l2 := HCAN.out.low _ hp2; have l3 := HCAN.out.top _ hp2
    have hsp : (pre ++ [(⟨x, hx⟩ : Fin m)]).map (fun x : Fin m => spAt t x.1) = pre.map (fun x : Fin m => spAt t x.1) ++ [(t.getD (2 * x) 0, t.getD (2 * x + 1) 0 - 1)] := by rw [List.map_append]; rfl
    have hpl : (pre.map (fun x : Fin m => spAt t x.1)).length ≤ 20000 := by rw [List.length_map]; omega
    have HSP := Lib.hid hsp
    generalize pre.map (fun x : Fin m => spAt t x.1) = acc at *
    generalize t.getD (2 * x) 0 = p at *
    generalize t.getD (2 * x + 1) 0 = q at *
    clear hsp hcl hgc hp2 hxn
    generalize 2 * x = x2 at *
    obtain ⟨va, vc, rfl, _, _⟩ := hown.form
    have hcb := hbv.cell
    have hfb := hbv.frozen
    have hy : RowG ESp (W.drew.alloc (.cells #[.int .i64 p, .int .i64 (q - 1)] 49)) (.slice (some ⟨W.heap.size, 0, none⟩) [(p, q - 1)].length 1) [(p, q - 1)] := RowG.new W.drew #[.int .i64 p, .int .i64 (q - 1)] 49 1 [(p, q - 1)] rfl rfl (by unfold maxLen; omega)
    have hownd : OwnG ESp 49 r1 W.drew (.slice va acc.length vc) acc := hown.on ((Kept.refl _ _).drew)
    obtain ⟨g', c', w', hr, hown', hgrow, hloc⟩ := appendG_grown Tryz.underlying46 info_span rfl (by omega) (hownd.alloc _) hy (by simp; omega) (by simp) (by simp; have := HR1.out; omega)
    have hbd : Boxed W.drew b 46 (.slice va acc.length vc) := hbv
    obtain ⟨hv1, hv2, hr2, hk2, _⟩ := hbd.appended (by decide) hownd (by show r1 ≤ W.heap.size; have := HR1.out; omega) (by have := HR1.out; omega) hown' hgrow
    have hc1 := hv1.cell; have hf1 := hv1.frozen
    have HR := Lib.hid hr
    rw [List.length_append] at hr
    simp only [List.length_cons, List.length_nil, Nat.zero_add] at hr
    have hbt : b < W.heap.size := by omega
    have hgW : g < W.heap.size := by have := HR1.out; omega
    have hSd : W.drew.cell? ⟨g, off + x2, none⟩ = some (.int .i64 p) ∧ W.drew.cell? ⟨g, off + x2 + 1, none⟩ = some (.int .i64 q) := ⟨c0, c1⟩
    have hSa : (W.drew.alloc (.cells #[.int .i64 p, .int .i64 (q - 1)] 49)).cell? ⟨g, off + x2, none⟩ = some (.int .i64 p) ∧ (W.drew.alloc (.cells #[.int .i64 p, .int .i64 (q - 1)] 49)).cell? ⟨g, off + x2 + 1, none⟩ = some (.int .i64 q) :=
      ⟨(World.cell?_alloc_lt _ _ _ hgW).trans c0, (World.cell?_alloc_lt _ _ _ hgW).trans c1⟩
    have hca : (W.drew.alloc (.cells #[.int .i64 p, .int .i64 (q - 1)] 49)).cell? ⟨b, 0, none⟩ = some (.slice va acc.length vc) := (World.cell?_alloc_lt _ _ _ hbt).trans hcb
    have hgo : (Value.slice va acc.length vc).ownBlock ≠ some g := fun e => by have := (hown.lt g e).1; have := HR1.out; omega
    have hgw : ∀ j, w'.cell? ⟨g, j, none⟩ = (W.drew.alloc (.cells #[.int .i64 p, .int .i64 (q - 1)] 49)).cell? ⟨g, j, none⟩ := fun j => World.cell?_of_block (hgrow.block g (by simp; omega) (fun e => hgo e.symm))
    have hSw : w'.cell? ⟨g, off + x2, none⟩ = some (.int .i64 p) ∧ w'.cell? ⟨g, off + x2 + 1, none⟩ = some (.int .i64 q) := ⟨(hgw _).trans hSa.1, (hgw _).trans hSa.2⟩
    have hbg : b ≠ g := by have := HR1.out; omega
    have hSf : (w'.setCell ⟨b, 0, none⟩ (.slice (some ⟨g', 0, none⟩) (acc.length + 1) c')).cell? ⟨g, off + x2, none⟩ = some (.int .i64 p) ∧ (w'.setCell ⟨b, 0, none⟩ (.slice (some ⟨g', 0, none⟩) (acc.length + 1) c')).cell? ⟨g, off + x2 + 1, none⟩ = some (.int .i64 q) :=
      ⟨(World.cell?_setCell_far _ _ _ _ hbg).trans hSw.1, (World.cell?_setCell_far _ _ _ _ hbg).trans hSw.2⟩
    have hwr : IntKind.i64.wrap (q - 1) = q - 1 := by rw [IntKind.wrap_i64]; omega
    have hal : (acc ++ [(p, q - 1)]).length = acc.length + 1 := by rw [List.length_append]; rfl
    rw [hal] at hv2 hr2 hk2
    have HFIN : Hid (KeepsFrom w2.heap.size W (w'.setCell ⟨b, 0, none⟩ (.slice (some ⟨g', 0, none⟩) (acc.length + 1) c')) ∧ KeepM (SpS r1 b) (b + 3) W (w'.setCell ⟨b, 0, none⟩ (.slice (some ⟨g', 0, none⟩) (acc.length + 1) c')) ∧ SpI t m r1 b w2 (pre ++ [⟨x, hx⟩]) (w'.setCell ⟨b, 0, none⟩ (.slice (some ⟨g', 0, none⟩) (acc.length + 1) c'))) := Lib.hid (by
      have hkk : KeepM (SpS r1 b) (b + 3) W (w'.setCell ⟨b, 0, none⟩ (.slice (some ⟨g', 0, none⟩) (acc.length + 1) c')) :=
        (((KeepM.drew W).trans (KeepM.grown (World.grownBy_alloc W.drew _ none) (fun r e => by cases e))).trans (KeepM.grown hgrow (fun r e => (hat r e).elim (fun h => Or.inr (Or.inl h)) Or.inl))).trans (KeepM.grown (grownBy_setCell' w' b _) (fun r e => by cases e; exact Or.inr (Or.inr rfl)))
      refine ⟨((KeepsOthers.drew W).trans hk2).from _, hkk, ⟨_, hv2, ?_, fun k hk => ?_⟩, hkm.trans hkk⟩
      · rw [HSP.out]
        unfold OwnG
        rw [hal]
        exact hr2
      · rcases hloc with h | h
        · exact hat k (by rw [h]; exact hk)
        · have : g' = k := by simpa [Value.ownBlock] using hk
          refine Or.inr ?_
          rw [← this, h]
          simp; omega)
    clear hkm hown hownd hbd hy hgrow hown' hk2 hloc hat hv2 hr2 hgw hgo hv1 hS hbx hro
    gi_wp2
    refine wpIn_region_held (S := fun w9 => w9.cell? ⟨g, off + x2, none⟩ = some (.int .i64 p) ∧ w9.cell? ⟨g, off + x2 + 1, none⟩ = some (.int .i64 q)) hmix (fun ⟨_, _, h⟩ => h) (by kernel_rfl) hSd (fun _ => ?_)
    refine wpAnyH_take (i := 1) (v := .slice (some ⟨g, off + x2, none⟩) 2 2) rfl (by kernel_rfl) (by kernel_rfl) (by kernel_rfl) (fun _ _ _ h => h) (Or.inl ⟨by simp [Region.wanted, yielded], fun W hW => by obtain ⟨s1, s2⟩ := hW; go_simp⟩) hSd ?_
    try (simp only [Act.put, List.getElem_toArray, List.getElem_cons_succ, List.getElem_cons_zero, List.setIfInBounds_toArray, List.set_cons_zero, List.set_cons_succ])
    refine wpAnyH_take (i := 2) (v := .pointer (some ⟨g, off + x2, none⟩)) rfl (by kernel_rfl) (by kernel_rfl) (by kernel_rfl) (fun _ _ _ h => h) (Or.inl ⟨by simp [Region.wanted, yielded], fun W hW => by obtain ⟨s1, s2⟩ := hW; go_simp⟩) hSd ?_
    try (simp only [Act.put, List.getElem_toArray, List.getElem_cons_succ, List.getElem_cons_zero, List.setIfInBounds_toArray, List.set_cons_zero, List.set_cons_succ])
    refine wpAnyH_take (i := 3) (v := .int .i64 p) rfl (by kernel_rfl) (by kernel_rfl) (by kernel_rfl) (fun _ _ _ h => h) (Or.inl ⟨by simp [Region.wanted, yielded], fun W hW => by obtain ⟨s1, s2⟩ := hW; go_simp⟩) hSd ?_
    try (simp only [Act.put, List.getElem_toArray, List.getElem_cons_succ, List.getElem_cons_zero, List.setIfInBounds_toArray, List.set_cons_zero, List.set_cons_succ])
    refine wpAnyH_take (i := 4) (v := .slice (some ⟨g, off + x2, none⟩) 2 2) rfl (by kernel_rfl) (by kernel_rfl) (by kernel_rfl) (fun _ _ _ h => h) (Or.inl ⟨by simp [Region.wanted, yielded], fun W hW => by obtain ⟨s1, s2⟩ := hW; go_simp⟩) hSd ?_
    try (simp only [Act.put, List.getElem_toArray, List.getElem_cons_succ, List.getElem_cons_zero, List.setIfInBounds_toArray, List.set_cons_zero, List.set_cons_succ])
    refine wpAnyH_take (i := 5) (v := .pointer (some ⟨g, off + x2 + 1, none⟩)) rfl (by kernel_rfl) (by kernel_rfl) (by kernel_rfl) (fun _ _ _ h => h) (Or.inl ⟨by simp [Region.wanted, yielded], fun W hW => by obtain ⟨s1, s2⟩ := hW; go_simp⟩) hSd ?_
    try (simp only [Act.put, List.getElem_toArray, List.getElem_cons_succ, List.getElem_cons_zero, List.setIfInBounds_toArray, List.set_cons_zero, List.set_cons_succ])
    refine wpAnyH_take (i := 6) (v := .int .i64 q) rfl (by kernel_rfl) (by kernel_rfl) (by kernel_rfl) (fun _ _ _ h => h) (Or.inl ⟨by simp [Region.wanted, yielded], fun W hW => by obtain ⟨s1, s2⟩ := hW; go_simp⟩) hSd ?_
    try (simp only [Act.put, List.getElem_toArray, List.getElem_cons_succ, List.getElem_cons_zero, List.setIfInBounds_toArray, List.set_cons_zero, List.set_cons_succ])
    refine wpAnyH_take (i := 7) (v := .int .i64 (q - 1)) rfl (by kernel_rfl) (by kernel_rfl) (by kernel_rfl) (fun _ _ _ h => h) (Or.inl ⟨by simp [Region.wanted, yielded], fun W hW => by obtain ⟨s1, s2⟩ := hW; go_simp⟩) hSd ?_
    try (simp only [Act.put, List.getElem_toArray, List.getElem_cons_succ, List.getElem_cons_zero, List.setIfInBounds_toArray, List.set_cons_zero, List.set_cons_succ])
    refine wpAnyH_take (i := 8) (v := .agg #[.int .i64 p, .int .i64 (q - 1)]) rfl (by kernel_rfl) (by kernel_rfl) (by kernel_rfl) (fun _ _ _ h => h) (Or.inl ⟨by simp [Region.wanted, yielded], fun W hW => by obtain ⟨s1, s2⟩ := hW; go_simp⟩) hSd ?_
    try (simp only [Act.put, List.getElem_toArray, List.getElem_cons_succ, List.getElem_cons_zero, List.setIfInBounds_toArray, List.set_cons_zero, List.set_cons_succ])
    refine wpAnyH_ready (rs := [0, 9]) (by kernel_rfl) (by simp) ?_
    refine AllReadyH.cons (o := _) rfl (fun KK hKK => ?_) (AllReadyH.cons (o := _) rfl (fun KK hKK => ?_) AllReadyH.nil)
    · rw [if_pos (by simp [Region.wanted, yielded])]
      go_simp
      refine hKK.out _ _ hSd (fun _ => ?_)
      clear hKK KK
      try (simp only [Act.put, List.getElem_toArray, List.getElem_cons_succ, List.getElem_cons_zero, List.setIfInBounds_toArray, List.set_cons_zero, List.set_cons_succ])
      refine wpAnyH_ready (rs := [9]) (by kernel_rfl) (by simp) ?_
      refine AllReadyH.cons (o := _) rfl (fun KK hKK => ?_) AllReadyH.nil
      rw [if_pos (by simp [Region.wanted, yielded])]
      go_simp
      refine hKK.out _ _ hSa (fun _ => ?_)
      clear hKK KK
      try (simp only [Act.put, List.getElem_toArray, List.getElem_cons_succ, List.getElem_cons_zero, List.setIfInBounds_toArray, List.set_cons_zero, List.set_cons_succ])
      refine wpAnyH_ready (rs := [10]) (by kernel_rfl) (by simp) ?_
      refine AllReadyH.cons (o := _) rfl (fun KK hKK => ?_) AllReadyH.nil
      refine step_appendG_run (by simp [Region.wanted, yielded]) _ _ _ _ (by rfl) _ _ (by rfl) (by rfl) hr ?_
      refine hKK.out _ _ hSw (fun _ => ?_)
      clear hKK KK
      try (simp only [Act.put, List.getElem_toArray, List.getElem_cons_succ, List.getElem_cons_zero, List.setIfInBounds_toArray, List.set_cons_zero, List.set_cons_succ])
      refine wpAnyH_ready (rs := [11]) (by kernel_rfl) (by simp) ?_
      refine AllReadyH.cons (o := _) rfl (fun KK hKK => ?_) AllReadyH.nil
      rw [if_pos (by simp [Region.wanted, yielded])]
      go_simp
      refine hKK.out _ _ hSf (fun _ => ?_)
      clear hKK KK
      try (simp only [Act.put, List.getElem_toArray, List.getElem_cons_succ, List.getElem_cons_zero, List.setIfInBounds_toArray, List.set_cons_zero, List.set_cons_succ])
      refine wpAnyH_done (by kernel_rfl) ?_ _
      exact HFIN.out
    · rw [if_pos (by simp [Region.wanted, yielded])]
      go_simp
      refine hKK.out _ _ hSa (fun _ => ?_)
      clear hKK KK
      try (simp only [Act.put, List.getElem_toArray, List.getElem_cons_succ, List.getElem_cons_zero, List.setIfInBounds_toArray, List.set_cons_zero, List.set_cons_succ])
      refine wpAnyH_ready (rs := [0]) (by kernel_rfl) (by simp) ?_
      refine AllReadyH.cons (o := _) rfl (fun KK hKK => ?_) AllReadyH.nil
      rw [if_pos (by simp [Region.wanted, yielded])]
      go_simp
      refine hKK.out _ _ hSa (fun _ => ?_)
      clear hKK KK
      try (simp only [Act.put, List.getElem_toArray, List.getElem_cons_succ, List.getElem_cons_zero, List.setIfInBounds_toArray, List.set_cons_zero, List.set_cons_succ])
      refine wpAnyH_ready (rs := [10]) (by kernel_rfl) (by simp) ?_
      refine AllReadyH.cons (o := _) rfl (fun KK hKK => ?_) AllReadyH.nil
      refine step_appendG_run (by simp [Region.wanted, yielded]) _ _ _ _ (by rfl) _ _ (by rfl) (by rfl) hr ?_
      refine hKK.out _ _ hSw (fun _ => ?_)
      clear hKK KK
      try (simp only [Act.put, List.getElem_toArray, List.getElem_cons_succ, List.getElem_cons_zero, List.setIfInBounds_toArray, List.set_cons_zero, List.set_cons_succ])
      refine wpAnyH_ready (rs := [11]) (by kernel_rfl) (by simp) ?_
      refine AllReadyH.cons (o := _) rfl (fun KK hKK => ?_) AllReadyH.nil
      rw [if_pos (by simp [Region.wanted, yielded])]
      go_simp
      refine hKK.out _ _ hSf (fun _ => ?_)
      clear hKK KK
      try (simp only [Act.put, List.getElem_toArray, List.getElem_cons_succ, List.getElem_cons_zero, List.setIfInBounds_toArray, List.set_cons_zero, List.set_cons_succ])
      refine wpAnyH_done (by kernel_rfl) ?_ _
      exact HFIN.out
  case done =>
    rintro D ys W hD rfl ⟨⟨v, hbv, hown, hat⟩, hkm⟩ hK
    have hc := hbv.cell
    have hsp := spansD_upF HM.out
    rw [hsp] at hown
    rw [hsz2] at hD
    have hfin : Kept (fun _ => False) w0 (W.putObj D (.deferred none)) :=
      HK2.out.trans ((hkm.trans (KeepM.putB W D _ (.deferred none) hD hK rfl rfl)).kept (by omega)) (fun _ _ h => h.elim) (fun i hi h => by have := HR1.out; unfold SpS at h; omega)
    have hown2 : OwnG ESp 49 w0.heap.size (W.putObj D (.deferred none)) v (spansD t) := OwnG.low (ownsRow_putObj hown _ hK rfl) (by have := HR1.out; omega)
    have HF := Lib.hid hfin; have HO := Lib.hid hown2
    clear hfin hown2 hown hkm hsp
    gi_wp2
    refine ⟨by simp, .inl ⟨_, _, rfl, run_takeDeferred hK, ?_⟩⟩
    exact ⟨_, results_tmp rfl _ _ _, v, rfl, HO.out, HF.out⟩
  case stop =>
    rintro D c pre W _ _ h _
    exact h.elim
end Go.Proofs.YtjglnpijngdpkaaGreatDoor
