/-
  arbaclaw01.BitsRanges returns true.
-/
import Derived.Test.YtkgpnnegjhnjdaaDoorBAw
import Derived.Test.YtkgpnnegjhnjdaaDoorBIs
import Derived.Test.YtkgpnnegjhnjdaaDoorBRv
import Derived.Test.YtkgpnnegjhnjdaaDoorBBx
import Derived.Test.YtkgpnnegjhnjdaaDoorBEq
import Derived.Test.YtkgpnnegjhnjdaaDoorBRk
import Derived.LoopN
import Derived.Deep.RegionHeld3
namespace Go.Proofs.YtkgpnnegjhnjdaaDoor
open Go.RowKit Go.Shelf
attribute [local go_sem] Oper.semAt_some
set_option linter.unusedSimpArgs false
set_option linter.unusedVariables false

theorem u8_natB (a : Int) (h : (Lit.int .u8 a).wf = true) : ∃ n : Nat, a = (n : Int) ∧ n < 256 := by
  simp [Lit.wf, IntKind.min, IntKind.max, IntKind.signed, IntKind.bits] at h
  exact ⟨a.toNat, by omega, by omega⟩
theorem bytesOf_lenR {M : Nat} (h : Small M) : (bytesOf M).length ≤ 512 := by
  unfold bytesOf
  split
  · simp
  · rename_i h0
    have := log2_small h h0
    rw [bl8_length]; omega
theorem ints_cut {w : World} {a : Option Addr} {n c k : Nat} {xs : List Int} (h : Ints w (.slice a n c) xs) (hk : k ≤ n) : Ints w (.slice a k c) (xs.take k) := by
  rcases h with ⟨e, rfl⟩ | ⟨g, off, cap, e, h1, h2, h3, h4⟩
  · cases e
    obtain rfl : k = 0 := by omega
    exact Or.inl ⟨rfl, rfl⟩
  · cases e
    have hl : (xs.take k).length = k := by simp; omega
    refine Or.inr ⟨g, off, c, by rw [hl], by omega, h2, h3, fun i hi => ?_⟩
    rw [hl] at hi
    rw [h4 i (by omega)]
    simp [List.getD, hi]
theorem ints_cap {w : World} {a : Option Addr} {n c : Nat} {xs : List Int} (h : Ints w (.slice a n c) xs) : n ≤ c ∧ c ≤ 9223372036854775807 := by
  rcases h with ⟨e, rfl⟩ | ⟨g, off, cap, e, h1, h2, h3, h4⟩
  · cases e; omega
  · cases e; unfold maxLen at h2; omega
/-- The cells of a slice may be written. -/
def Wrt (w : World) (a : Option Addr) (n : Nat) : Prop := 0 < n → ∃ g, a = some ⟨g, 0, none⟩ ∧ g < w.heap.size ∧ ∀ i, i < n → (w.cell? ⟨g, i, none⟩).isSome = true ∧ w.frozen? ⟨g, i, none⟩ = false
theorem wrt_of_owns {w : World} {B : Nat} {e : TypeId} {v : Value} {n : Nat} {xs : List Value} (h : w.ownsRow B e 1 v n xs) : ∃ a c, v = .slice a n c ∧ Wrt w a n := by
  rcases h.2 with ⟨rfl, rfl⟩ | ⟨g, cap, cur, rfl, _, hg, hle, _, hsz, _⟩
  · exact ⟨_, _, rfl, fun h => by omega⟩
  · refine ⟨_, _, rfl, fun _ => ⟨g, rfl, (Array.getElem?_eq_some_iff.1 hg).1, fun i hi => ⟨?_, ?_⟩⟩⟩
    · have : i < cur.size := by omega
      simp [World.cell?, hg, this]
    · simp [World.frozen?, hg]
theorem Wrt.kept {a b : World} {x : Option Addr} {n : Nat} (h : Wrt a x n) (hk : Kept (fun _ => False) a b) : Wrt b x n := fun h0 => by
  obtain ⟨g, e, hg, hc⟩ := h h0
  exact ⟨g, e, Nat.lt_of_lt_of_le hg hk.size, fun i hi => ⟨by rw [hk.cell (p := ⟨g, i, none⟩) hg (fun h => h)]; exact (hc i hi).1, (hk.frozen (p := ⟨g, i, none⟩) hg (fun h => h)).trans (hc i hi).2⟩⟩
theorem Wrt.set {a : World} {g n : Nat} (h : Wrt a (some ⟨g, 0, none⟩) n) (k : Nat) (u : Value) : Wrt (a.setCell ⟨g, k, none⟩ u) (some ⟨g, 0, none⟩) n := fun h0 => by
  obtain ⟨g2, e, hg, hc⟩ := h h0
  cases e
  refine ⟨g, rfl, by simpa using hg, fun i hi => ⟨?_, by rw [World.frozen?_setCell]; exact (hc i hi).2⟩⟩
  by_cases hik : i = k
  · subst hik
    obtain ⟨x, hx⟩ := Option.isSome_iff_exists.1 (hc i hi).1
    rw [World.cell?_setCell_same _ _ _ hx]; rfl
  · rw [World.cell?_setCell_other _ _ _ _ (fun e => hik (by simpa using e.symm))]; exact (hc i hi).1
/-- What a round of the law's own loop over All has gathered. -/
def GotI (gb r : Nat) (W0 : World) (pre : List Int) (W : World) : Prop :=
  (∃ v, Boxed W gb 22 v ∧ W.ownsRow 0 3 1 v pre.length (pre.map (Value.int .i64)) ∧ (RowAt (.slice none 0 0) W0.heap.size v ∧ pre.length ≤ r)) ∧ KeepM (fun k => k = gb) W0.heap.size W0 W
def GotX (gb r : Nat) (W0 : World) (c : Code) (pre : List Int) (W : World) : Prop :=
  c = .exit 2 ∧ ((∃ v, Boxed W gb 22 v ∧ W.ownsRow 0 3 1 v pre.dropLast.length (pre.dropLast.map (Value.int .i64)) ∧ (RowAt (.slice none 0 0) W0.heap.size v ∧ pre.dropLast.length = r)) ∧ KeepM (fun k => k = gb) W0.heap.size W0 W)
def GotF (gb r : Nat) (L : List Int) (W0 : World) (W : World) : Prop :=
  ∃ v, Boxed W gb 22 v ∧ W.ownsRow 0 3 1 v (L.take r).length ((L.take r).map (Value.int .i64)) ∧ RowAt (.slice none 0 0) W0.heap.size v ∧ KeepM (fun k => k = gb) W0.heap.size W0 W
theorem gotI_own (gb r : Nat) (W0 : World) : OwnFrom W0.heap.size (GotI gb r W0) :=
  OwnFrom.and (Own.from (holdsRow_own 0 gb 22 3 1 (fun pre : List Int => pre.length) (fun pre : List Int => pre.map (Value.int .i64)) (fun (pre : List Int) v => RowAt (.slice none 0 0) W0.heap.size v ∧ pre.length ≤ r)) _) (ownFrom_keepM (Nat.le_refl _))
theorem gotX_own (gb r : Nat) (W0 : World) (c : Code) : OwnFrom W0.heap.size (GotX gb r W0 c) := fun s A B row hs hg hr =>
  ⟨hs.1, (OwnFrom.and (Own.from (holdsRow_own 0 gb 22 3 1 (fun pre : List Int => pre.dropLast.length) (fun pre : List Int => pre.dropLast.map (Value.int .i64)) (fun (pre : List Int) v => RowAt (.slice none 0 0) W0.heap.size v ∧ pre.dropLast.length = r)) _) (ownFrom_keepM (Nat.le_refl _))) s A B row hs.2 hg hr⟩
theorem got_done {gb r : Nat} {L : List Int} {W0 W : World} {ys : List Int} (h : ys = L) (hi : GotI gb r W0 ys W) : GotF gb r L W0 W := by
  subst h
  obtain ⟨⟨v, h1, h2, h3, h4⟩, h5⟩ := hi
  exact ⟨v, h1, by rw [List.take_of_length_le h4]; exact h2, h3, h5⟩
theorem got_stop {gb r : Nat} {L : List Int} {W0 W : World} {c : Code} {pre : List Int} (h : pre <+: L) (hi : GotX gb r W0 c pre W) : c = .exit 2 ∧ GotF gb r L W0 W := by
  obtain ⟨h0, ⟨v, h1, h2, h3, h4⟩, h5⟩ := hi
  have e : pre.dropLast = L.take r := by
    obtain ⟨t, rfl⟩ := h
    have hle : r ≤ pre.length := by rw [← h4, List.length_dropLast]; omega
    rw [List.take_append_of_le_length hle, List.dropLast_eq_take]
    congr 1
    rw [List.length_dropLast] at h4
    exact h4
  rw [e] at h2
  exact ⟨h0, v, h1, h2, h3, h5⟩

set_option maxRecDepth 100000 in
set_option maxHeartbeats 6400000 in
theorem ranges_law (w : World) (v : Value) (xs : List Int) (m : Nat) (hm : m < 256) (h : Ints w v xs) (hL : Libs w) :
    Calls Tryd.prog 4 #[v, .int .u8 (m : Nat)] w fun e w' => e = .returned (.bool true) ∧ Kept (fun _ => False) w w' := by
  obtain ⟨i0, hi, hz0, hz1, hz2⟩ := info_parts info_int9
  obtain ⟨r, hr⟩ : ∃ r, r = m % 70 := ⟨_, rfl⟩
  have hr70 : r < 70 := by omega
  have hE : IntKind.i64.wrap (m : Int) = (m : Int) ∧ (m : Int).tmod 70 = (r : Int) ∧ (m : Int) % 70 = (r : Int) := ⟨IntWalk.i64_in _ (by omega), by rw [Int.tmod_eq_emod_of_nonneg (by omega)]; omega, by omega⟩
  obtain ⟨e1, e2, e3⟩ := hE
  clear hr
  have HL := Lib.hid hL; have HI := Lib.hid h
  clear hL h
  refine (callsIn_wide (n := 3)).1 ?_
  refine callsIn_of_wp_marks Tryd.func4 rfl trivial ?_ rfl
  simp only [Tryd.ntmps4, List.size_toArray, List.length_cons, List.length_nil, Nat.reduceAdd, Nat.reduceSub, Array.replicate_succ, Array.replicate_zero, List.push_toArray, List.append_toArray, List.nil_append, List.cons_append]
  refine wpIn_wide.2 ?_
  go_wp2_with fail
  refine (aw_any w HL.out).mono ?_
  rintro e w1 ⟨rfl, k1⟩
  have K1 := Lib.hid k1
  clear k1
  go_wp2_with fail
  refine (few_any _ _ xs (HI.out.kept K1.out (fun _ _ h => h))).mono ?_
  rintro e w2 ⟨u, rfl, hu, rfl⟩
  have hxl : (xs.take 60).length ≤ 5000 := by simp; omega
  have HX := Lib.hid hxl
  have HU := Lib.hid hu
  clear hu hxl
  go_wp2_with fail
  refine (of_any _ _ _ HU.out).mono ?_
  rintro e w3 ⟨v3, rfl, hs3, -, k3⟩
  have HS3 := Lib.hid hs3
  have K3 := Lib.hid (K1.out.then k3)
  clear hs3 k3 HU
  go_wp2_with fail
  refine (few_any _ _ xs (HI.out.kept K3.out (fun _ _ h => h))).mono ?_
  rintro e w3b ⟨u2, rfl, hu2, rfl⟩
  have HU2 := Lib.hid hu2
  clear hu2
  go_wp2_with fail
  refine (rof_any _ _ _ HU2.out HX.out).mono ?_
  rintro e w4 ⟨u4, rfl, hu4, k4⟩
  rw [ofL_mask] at hu4
  have HS4 := Lib.hid (HS3.out.onC k4)
  have HU4 := Lib.hid hu4.ints
  have K4 := Lib.hid (K3.out.then k4)
  clear hu4 k4 HS3 HU2 K3 K1
  have hSM := maskOf_small (xs.take 60)
  have hLn := memM_le (maskOf (xs.take 60)) 4096
  generalize maskOf (xs.take 60) = M at HS4 HU4 hSM hLn
  obtain ⟨hv, hs, rfl, hw, hc, -⟩ := HS4.out.ex
  have hsm := hc.small hSM
  have hall := memM_all hc hsm
  obtain ⟨va, vc, hf, -, -⟩ := words_form hw
  subst hf
  have hwlt := hw.lt
  have hT4 := (HL.out.kept K4.out).tz
  have hglt := hT4.lt
  obtain ⟨L, hLL⟩ : ∃ L, L = memM M 4096 := ⟨_, rfl⟩
  have HST : Hid (∀ (W : World) (S : Nat → Prop) (M' B : Nat), AllAt W B M (.slice va hs.length vc) hs → B < M' → ¬ S B → w4.heap.size ≤ M' → (∀ k, k < w4.heap.size → ¬ S k) →
      SeqStopsK Fence.wide 2 Tryd.prog 34 #[.pointer (some ⟨B, 0, none⟩)] (fun x : Int => #[Value.int .i64 x]) (KeepM S M') (fun ys => ys = L) (fun pre => pre <+: L) L.length W) := fun W S M' B hA hB hB2 hM hS => by
    rw [hLL, ← hall]
    exact all_stops S M' B M va vc hs W hA hsm hB hB2 (fun k hk => ⟨Nat.lt_of_lt_of_le (hwlt k hk) hM, hS k (hwlt k hk)⟩) (Nat.lt_of_lt_of_le hglt hM) (hS _ hglt)
  have HAL := Lib.hid (fun (W : World) (k : Kept (fun _ => False) w4 W) => allAt_new (M := M) (hw.kept k (fun _ _ h => h)) hc (hT4.kept k (fun h => h)))
  rw [← hLL] at HU4 hLn
  have HLL := Lib.hid hLL; have HSM := Lib.hid hSM; have HLN := Lib.hid hLn
  clear hw hc hall hwlt hT4 hglt hsm hLL hSM hLn
  obtain ⟨lo, hlo⟩ : ∃ lo, lo = M % 2 ^ 64 := ⟨_, rfl⟩
  rw [← hlo] at HS4 HAL ⊢
  clear hlo
  generalize hs.length = n at *
  obtain ⟨a4, c4, hf4⟩ := HU4.out.form
  subst hf4
  go_wp2_with fail
  have q0 : ((w4.alloc (.cells #[.int .u64 lo, .slice va n vc] 27)).alloc (.cells #[.int .i64 r] 3)).cell? ⟨w4.heap.size, 0, none⟩ = some (.int .u64 lo) := by go_simp
  have q1 : ((w4.alloc (.cells #[.int .u64 lo, .slice va n vc] 27)).alloc (.cells #[.int .i64 r] 3)).cell? ⟨w4.heap.size, 1, none⟩ = some (.slice va n vc) := by go_simp
  have qn : ((w4.alloc (.cells #[.int .u64 lo, .slice va n vc] 27)).alloc (.cells #[.int .i64 r] 3)).cell? ⟨w4.heap.size + 1, 0, none⟩ = some (.int .i64 r) := by go_simp
  have qz : ((w4.alloc (.cells #[.int .u64 lo, .slice va n vc] 27)).alloc (.cells #[.int .i64 r] 3)).heap.size = w4.heap.size + 2 := by simp
  have K5 := Lib.hid (show Kept (fun _ => False) w4 ((w4.alloc (.cells #[.int .u64 lo, .slice va n vc] 27)).alloc (.cells #[.int .i64 r] 3)) from (Kept.alloc _ _ _).then (Kept.alloc _ _ _))
  generalize (w4.alloc (.cells #[.int .u64 lo, .slice va n vc] 27)).alloc (.cells #[.int .i64 r] 3) = W5 at q0 q1 qn qz K5 ⊢
  have HQ : Hid (∀ W, Kept (fun _ => False) W5 W → W.cell? ⟨w4.heap.size, 0, none⟩ = some (.int .u64 lo) ∧ W.cell? ⟨w4.heap.size, 1, none⟩ = some (.slice va n vc) ∧ W.cell? ⟨w4.heap.size + 1, 0, none⟩ = some (.int .i64 r)) := fun W k =>
    ⟨(k.cell (p := ⟨w4.heap.size, 0, none⟩) (World.block_lt_of_cell? W5 _ q0) (fun h => h)).trans q0, (k.cell (p := ⟨w4.heap.size, 1, none⟩) (World.block_lt_of_cell? W5 _ q1) (fun h => h)).trans q1, (k.cell (p := ⟨w4.heap.size + 1, 0, none⟩) (World.block_lt_of_cell? W5 _ qn) (fun h => h)).trans qn⟩
  clear q0 q1 qn
  refine wp_loop_rounds 3 ?_
  have KR0 := Lib.hid (Kept.refl (fun _ => False) W5)
  have QZ := Lib.hid qz
  clear qz
  rw [rounds_succ]
  obtain ⟨q0, q1, qn⟩ := HQ.out W5 KR0.out
  have qz0 : w4.heap.size < W5.heap.size := World.block_lt_of_cell? _ _ q0
  have qz1 : w4.heap.size + 1 < W5.heap.size := World.block_lt_of_cell? _ _ qn
  go_wp2_with fail
  refine (all_any _ lo va n vc).mono ?_
  rintro e w9 ⟨rfl, rfl⟩
  have BX0 := Lib.hid (show Boxed _ W5.heap.size _ _ from (Boxed.new W5 22 (.slice none 0 0)).alloc (.cells #[.int .u64 lo, .slice va n vc] 27))
  have hsa : (W5.alloc (.cells #[.slice none 0 0] 22)).heap.size = W5.heap.size + 1 := by simp
  have AT0 := HAL.out (W5.alloc (.cells #[.slice none 0 0] 22)) (K5.out.then (KR0.out.then (Kept.alloc _ _ _)))
  rw [hsa] at AT0
  have hsb : ((W5.alloc (.cells #[.slice none 0 0] 22)).alloc (.cells #[.int .u64 lo, .slice va n vc] 27)).heap.size = W5.heap.size + 2 := by simp
  have KA0 := Lib.hid (show Kept (fun _ => False) W5 ((W5.alloc (.cells #[.slice none 0 0] 22)).alloc (.cells #[.int .u64 lo, .slice va n vc] 27)) from (Kept.alloc _ _ _).then (Kept.alloc _ _ _))
  have RN0 := Lib.hid (World.ownsRow_nil ((W5.alloc (.cells #[.slice none 0 0] 22)).alloc (.cells #[.int .u64 lo, .slice va n vc] 27)) 0 3 1)
  go_wp2_with fail
  generalize (W5.alloc (.cells #[.slice none 0 0] 22)).alloc (.cells #[.int .u64 lo, .slice va n vc] 27) = V0 at BX0 AT0 hsb KA0 RN0 ⊢
  have hw4 : w4.heap.size ≤ W5.heap.size := (K5.out.then KR0.out).size
  have ST0 := HST.out V0 (fun k => k = W5.heap.size) V0.heap.size (W5.heap.size + 1) AT0 (by omega) (by omega) (by omega) (fun k hk e => by omega)
  have hqn : Hid (V0.cell? ⟨w4.heap.size + 1, 0, none⟩ = some (.int .i64 r)) := (HQ.out _ (KR0.out.then KA0.out)).2.2
  clear q0 q1 qn AT0 hsa
  refine range_break (gf := 34) (lb := #[.pointer (some ⟨W5.heap.size + 1, 0, none⟩)]) rfl (enters_of Tryd.func34 (by kernel_rfl) rfl) ST0 KeepM.trans (fun W l o o' hl h h1 h2 => KeepM.putB W l o o' hl h h1 h2) (Below.refl _ _) (fun _ => rfl)
    (GotI W5.heap.size r V0) (GotX W5.heap.size r V0) (gotI_own _ _ _) (gotX_own _ _ _) ⟨⟨.slice none 0 0, BX0.out, RN0.out, fun k hk => by simp [Value.ownBlock] at hk, by simp⟩, KeepM.refl _ _ _⟩
    (fun x => { tmps := List.toArray (v :: .int .u8 (m : Nat) :: undef :: undef :: .bool false :: .pointer (some ⟨w4.heap.size, 0, none⟩) :: .slice a4 L.length c4 :: .pointer (some ⟨w4.heap.size + 1, 0, none⟩) :: .pointer (some ⟨W5.heap.size, 0, none⟩) :: .int .i64 x :: undef :: undef :: undef :: undef :: .bool true :: .bool false :: v :: u :: .agg #[.int .u64 lo, .slice va n vc] :: v :: u2 :: .slice a4 L.length c4 :: .int .u8 (m : Nat) :: .int .i64 (m : Nat) :: .int .i64 (r : Nat) :: .int .i64 0 :: .bool true :: .agg #[.int .u64 lo, .slice va n vc] :: .func (.func 34) #[] #[.pointer (some ⟨W5.heap.size + 1, 0, none⟩)] :: .int .i64 x :: undef :: undef :: undef :: undef :: undef :: undef :: undef :: undef :: undef :: undef :: undef :: undef :: undef :: undef :: undef :: undef :: undef :: undef :: undef :: undef :: undef :: undef :: undef :: undef :: undef :: undef :: undef :: undef :: undef :: undef :: undef :: undef :: undef :: undef :: undef :: undef :: undef :: undef :: undef :: undef :: undef :: undef :: undef :: []), defers := [] }) 2 (GotF W5.heap.size r L V0) (fun xs W h1 h2 => got_done h1 h2) (fun c pre W h1 h2 => got_stop h1 h2) (fun _ _ h => h) ?assign ?body ?cont
  case assign =>
    intro l x W K hK
    gi_wp2
    exact hK
  case body =>
    rintro l pre x W ⟨⟨v', hv, hrowv, hat, hle⟩, hB⟩ hlt
    have hc := hv.cell
    have hBs := hB.size
    have hnb : W.cell? ⟨w4.heap.size + 1, 0, none⟩ = some (.int .i64 r) := (World.cell?_of_block (w := V0) (hB.block (w4.heap.size + 1) (by omega) (by omega) (fun e => by have e2 : w4.heap.size + 1 = W5.heap.size := e; omega))).trans hqn.out
    obtain ⟨av, cv, hfv⟩ := (Ints.ofOwns hrowv).form
    subst hfv
    by_cases hpr : pre.length = r
    · have hpi : ((pre.length : Int) == (r : Int)) = true := by rw [hpr]; exact beq_self_eq_true _
      have HPR := Lib.hid hpr
      have HROW := Lib.hid hrowv
      clear hpr hrowv
      gi_wp2
      exact ⟨(KeepsOthers.refl _).from _, rfl, ⟨_, hv, by simpa using HROW.out, hat, by simpa using HPR.out⟩, hB⟩
    · have hpi : ((pre.length : Int) == (r : Int)) = false := beq_eq_false_iff_ne.2 (by omega)
      gi_wp2_with (gi_at_builtin; refine wpListIn_append_own_at _ rfl _ _ 22 rfl 0 3 i0 (.int .i64 0) 1 8 Tryd.underlying22 hi hz0 hz1 hz2 rfl (by decide) _ _ _ rfl (hrowv.alloc _) ⟨W.heap.size, 0, none⟩ 1 1 [.int .i64 x] rfl rfl (cell_one_new _ _ _) (by simp [Value.oneCell']) (by unfold maxLen; omega) (by omega) (Nat.zero_le _) ?_; intro v2 w9 hown' hgrow _ hloc; obtain ⟨g', cap', rfl⟩ := ownsRow_succ hown'; obtain ⟨hv1, hv2, hr2, hk2, _⟩ := hv.appended (by decide) hrowv (Nat.zero_le _) (Nat.zero_le _) hown' hgrow; have hc1 := hv1.cell; have hf1 := hv1.frozen)
      have hkm : KeepM (fun k => k = W5.heap.size) V0.heap.size W (w9.setCell ⟨W5.heap.size, 0, none⟩ (.slice (some ⟨g', 0, none⟩) (pre.length + 1) cap')) :=
        ((KeepM.grown (World.grownBy_alloc W _ none) (fun r e => by cases e)).trans (KeepM.grown hgrow (fun k e => (hat k e).elim (fun h => by simp [blk, Value.ownBlock] at h) Or.inl))).trans (KeepM.grown (grownBy_setCell' w9 W5.heap.size _) (fun k e => by cases e; exact Or.inr rfl))
      refine ⟨hk2.from _, hkm, ⟨_, hv2, by simpa using hr2, fun k hk => ?_, by simp; omega⟩, hB.trans hkm⟩
      rcases hloc with h | h
      · exact hat k (h.symm.trans hk)
      · rw [h] at hk
        have : k = W.heap.size + 1 := by simpa using hk.symm
        exact Or.inr (by omega)
  case cont =>
    rintro D0 X0 hD0 ⟨v2, hv, hown, hat, hkm⟩ hK
    have KQ0 : Hid (Kept (fun _ => False) W5 X0) := KA0.out.trans (hkm.kept (Nat.le_refl _)) (T := fun _ => False) (fun _ _ h => h) (fun q hq e => by have e2 : q = W5.heap.size := e; omega)
    have KR1 : Hid (Kept (fun _ => False) W5 X0) := KR0.out.then (KA0.out.trans (hkm.kept (Nat.le_refl _)) (T := fun _ => False) (fun _ _ h => h) (fun q hq e => by have e2 : q = W5.heap.size := e; omega))
    have HD0 := Lib.hid hK
    obtain ⟨ag0, cg0, hfg⟩ := (Ints.ofOwns hown).form
    subst hfg
    have HGI := Lib.hid (Ints.ofOwns hown)
    have gc := hv.cell
    obtain ⟨kk, hkk⟩ : ∃ kk, kk = min L.length r := ⟨_, rfl⟩
    have hlk : (L.take r).length = kk := by rw [List.length_take, hkk, Nat.min_comm]
    rw [hlk] at gc
    have hHU := HU4.out.kept (K5.out.then KR1.out) (fun _ _ h => h)
    have hcp := ints_cap hHU
    have hTK : L.take r = L.take kk := by
      rw [hkk]
      rcases Nat.le_total L.length r with h | h
      · rw [Nat.min_eq_left h, List.take_of_length_le h, List.take_length]
      · rw [Nat.min_eq_right h]
    have HE0 : Hid (∀ W', Kept (fun _ => False) X0 W' → Calls Tryd.prog 15 #[.slice ag0 kk cg0, .slice a4 kk c4] W' fun e w' => e = .returned (.bool true) ∧ Kept (fun _ => False) W' w') := fun W' k => by
      have h1 := HGI.out.kept k (fun _ _ h => h)
      rw [hlk, hTK] at h1
      have h2 := ints_cut (k := kk) (hHU.kept k (fun _ _ h => h)) (by omega)
      have h3 := equali_any W' _ _ _ _ h1 h2
      simpa using h3
    have mn : min (L.length : Int) (r : Int) = (kk : Int) := by omega
    have m0 : (0 : Int) ≤ (kk : Int) := by omega
    have m1 : (kk : Int) ≤ (L.length : Int) := by omega
    have m2 : (kk : Int) ≤ (c4 : Int) := by omega
    have m3 : kk ≤ c4 := by omega
    have hgX : W5.heap.size < X0.heap.size := hv.lt
    obtain ⟨q0, q1, qn⟩ := HQ.out X0 KR1.out
    clear hown hat hkm hK hv hHU hTK hlk HGI
    have GC := Lib.hid gc; have QN := Lib.hid qn; have DR := Lib.hid ((Kept.refl (fun _ => False) X0).drew)
    have HKK := Lib.hid hkk
    clear hkk
    go_wp2_with fail
    go_region_held3 (fun w' => w'.cell? ⟨W5.heap.size, 0, none⟩ = some (.slice ag0 kk cg0) ∧ w'.cell? ⟨w4.heap.size + 1, 0, none⟩ = some (.int .i64 r))
      (first | exact ⟨GC.out, QN.out⟩ | exact ⟨(KZ.out.cell (p := ⟨W5.heap.size, 0, none⟩) (by simp; omega) (fun h => h)).trans GC.out, (KZ.out.cell (p := ⟨w4.heap.size + 1, 0, none⟩) (by simp; omega) (fun h => h)).trans QN.out⟩)
      ((go_at_call 15; refine (HE0.out _ DR.out).mono ?_; rintro e wz0 ⟨rfl, kz⟩; have KZ := Lib.hid (DR.out.then kz); clear kz))
    all_goals
      have KS1 : Hid (Kept (fun _ => False) W5 wz0) := KR1.out.then KZ.out
      have KP0 : Hid (Kept (fun _ => False) W5 wz0) := KQ0.out.then KZ.out
      have HDS0 : Hid (wz0.heap[D0]? = some (.deferred (some []))) := (KZ.out.block D0 (Array.getElem?_eq_some_iff.1 HD0.out).1 (fun h => h)).trans HD0.out
      clear mn m0 m1 m2 m3 gc qn q0 q1 KR1 HD0 HE0 GC QN DR KZ
      have KR1 := KS1
      clear KS1
      go_wp2_with fail
      rw [rounds_succ]
      obtain ⟨q0, q1, qn⟩ := HQ.out wz0 KR1.out
      have qz0 : w4.heap.size < wz0.heap.size := World.block_lt_of_cell? _ _ q0
      have qz1 : w4.heap.size + 1 < wz0.heap.size := World.block_lt_of_cell? _ _ qn
      go_wp2_with fail
      refine (all_any _ lo va n vc).mono ?_
      rintro e w9 ⟨rfl, rfl⟩
      have BX1 := Lib.hid (show Boxed _ wz0.heap.size _ _ from (Boxed.new wz0 22 (.slice none 0 0)).alloc (.cells #[.int .u64 lo, .slice va n vc] 27))
      have hsa : (wz0.alloc (.cells #[.slice none 0 0] 22)).heap.size = wz0.heap.size + 1 := by simp
      have AT1 := HAL.out (wz0.alloc (.cells #[.slice none 0 0] 22)) (K5.out.then (KR1.out.then (Kept.alloc _ _ _)))
      rw [hsa] at AT1
      have hsb : ((wz0.alloc (.cells #[.slice none 0 0] 22)).alloc (.cells #[.int .u64 lo, .slice va n vc] 27)).heap.size = wz0.heap.size + 2 := by simp
      have KA1 := Lib.hid (show Kept (fun _ => False) wz0 ((wz0.alloc (.cells #[.slice none 0 0] 22)).alloc (.cells #[.int .u64 lo, .slice va n vc] 27)) from (Kept.alloc _ _ _).then (Kept.alloc _ _ _))
      have RN1 := Lib.hid (World.ownsRow_nil ((wz0.alloc (.cells #[.slice none 0 0] 22)).alloc (.cells #[.int .u64 lo, .slice va n vc] 27)) 0 3 1)
      go_wp2_with fail
      generalize (wz0.alloc (.cells #[.slice none 0 0] 22)).alloc (.cells #[.int .u64 lo, .slice va n vc] 27) = V1 at BX1 AT1 hsb KA1 RN1 ⊢
      have hw4 : w4.heap.size ≤ wz0.heap.size := (K5.out.then KR1.out).size
      have ST1 := HST.out V1 (fun k => k = wz0.heap.size) V1.heap.size (wz0.heap.size + 1) AT1 (by omega) (by omega) (by omega) (fun k hk e => by omega)
      have hqn : Hid (V1.cell? ⟨w4.heap.size + 1, 0, none⟩ = some (.int .i64 r)) := (HQ.out _ (KR1.out.then KA1.out)).2.2
      clear q0 q1 qn AT1 hsa
      refine range_break (gf := 34) (lb := #[.pointer (some ⟨wz0.heap.size + 1, 0, none⟩)]) rfl (enters_of Tryd.func34 (by kernel_rfl) rfl) ST1 KeepM.trans (fun W l o o' hl h h1 h2 => KeepM.putB W l o o' hl h h1 h2) (Below.refl _ _) (fun _ => rfl)
        (GotI wz0.heap.size r V1) (GotX wz0.heap.size r V1) (gotI_own _ _ _) (gotX_own _ _ _) ⟨⟨.slice none 0 0, BX1.out, RN1.out, fun k hk => by simp [Value.ownBlock] at hk, by simp⟩, KeepM.refl _ _ _⟩
        (fun x => { tmps := List.toArray (v :: .int .u8 (m : Nat) :: undef :: undef :: .bool false :: .pointer (some ⟨w4.heap.size, 0, none⟩) :: .slice a4 L.length c4 :: .pointer (some ⟨w4.heap.size + 1, 0, none⟩) :: .pointer (some ⟨wz0.heap.size, 0, none⟩) :: .int .i64 x :: undef :: undef :: undef :: undef :: .bool true :: .bool false :: v :: u :: .agg #[.int .u64 lo, .slice va n vc] :: v :: u2 :: .slice a4 L.length c4 :: .int .u8 (m : Nat) :: .int .i64 (m : Nat) :: .int .i64 (r : Nat) :: .int .i64 1 :: .bool true :: .agg #[.int .u64 lo, .slice va n vc] :: .func (.func 34) #[] #[.pointer (some ⟨wz0.heap.size + 1, 0, none⟩)] :: .int .i64 x :: undef :: undef :: undef :: undef :: undef :: undef :: undef :: undef :: .slice ag0 kk cg0 :: .slice a4 L.length c4 :: .slice a4 L.length c4 :: .int .i64 L.length :: .int .i64 (r : Nat) :: .int .i64 (kk : Nat) :: .slice a4 kk c4 :: .bool true :: .bool false :: .int .i64 1 :: undef :: undef :: undef :: undef :: undef :: undef :: undef :: undef :: undef :: undef :: undef :: undef :: undef :: undef :: undef :: undef :: undef :: undef :: undef :: undef :: undef :: undef :: undef :: undef :: undef :: []), defers := [] }) 2 (GotF wz0.heap.size r L V1) (fun xs W h1 h2 => got_done h1 h2) (fun c pre W h1 h2 => got_stop h1 h2) (fun _ _ h => h) ?assign ?body ?cont
      case assign =>
        intro l x W K hK
        gi_wp2
        exact hK
      case body =>
        rintro l pre x W ⟨⟨v', hv, hrowv, hat, hle⟩, hB⟩ hlt
        have hc := hv.cell
        have hBs := hB.size
        have hnb : W.cell? ⟨w4.heap.size + 1, 0, none⟩ = some (.int .i64 r) := (World.cell?_of_block (w := V1) (hB.block (w4.heap.size + 1) (by omega) (by omega) (fun e => by have e2 : w4.heap.size + 1 = wz0.heap.size := e; omega))).trans hqn.out
        obtain ⟨av, cv, hfv⟩ := (Ints.ofOwns hrowv).form
        subst hfv
        by_cases hpr : pre.length = r
        · have hpi : ((pre.length : Int) == (r : Int)) = true := by rw [hpr]; exact beq_self_eq_true _
          have HPR := Lib.hid hpr
          have HROW := Lib.hid hrowv
          clear hpr hrowv
          gi_wp2
          exact ⟨(KeepsOthers.refl _).from _, rfl, ⟨_, hv, by simpa using HROW.out, hat, by simpa using HPR.out⟩, hB⟩
        · have hpi : ((pre.length : Int) == (r : Int)) = false := beq_eq_false_iff_ne.2 (by omega)
          gi_wp2_with (gi_at_builtin; refine wpListIn_append_own_at _ rfl _ _ 22 rfl 0 3 i0 (.int .i64 0) 1 8 Tryd.underlying22 hi hz0 hz1 hz2 rfl (by decide) _ _ _ rfl (hrowv.alloc _) ⟨W.heap.size, 0, none⟩ 1 1 [.int .i64 x] rfl rfl (cell_one_new _ _ _) (by simp [Value.oneCell']) (by unfold maxLen; omega) (by omega) (Nat.zero_le _) ?_; intro v2 w9 hown' hgrow _ hloc; obtain ⟨g', cap', rfl⟩ := ownsRow_succ hown'; obtain ⟨hv1, hv2, hr2, hk2, _⟩ := hv.appended (by decide) hrowv (Nat.zero_le _) (Nat.zero_le _) hown' hgrow; have hc1 := hv1.cell; have hf1 := hv1.frozen)
          have hkm : KeepM (fun k => k = wz0.heap.size) V1.heap.size W (w9.setCell ⟨wz0.heap.size, 0, none⟩ (.slice (some ⟨g', 0, none⟩) (pre.length + 1) cap')) :=
            ((KeepM.grown (World.grownBy_alloc W _ none) (fun r e => by cases e)).trans (KeepM.grown hgrow (fun k e => (hat k e).elim (fun h => by simp [blk, Value.ownBlock] at h) Or.inl))).trans (KeepM.grown (grownBy_setCell' w9 wz0.heap.size _) (fun k e => by cases e; exact Or.inr rfl))
          refine ⟨hk2.from _, hkm, ⟨_, hv2, by simpa using hr2, fun k hk => ?_, by simp; omega⟩, hB.trans hkm⟩
          rcases hloc with h | h
          · exact hat k (h.symm.trans hk)
          · rw [h] at hk
            have : k = W.heap.size + 1 := by simpa using hk.symm
            exact Or.inr (by omega)
      case cont =>
        rintro D1 X1 hD1 ⟨v2, hv, hown, hat, hkm⟩ hK
        have KQ1 : Hid (Kept (fun _ => False) wz0 X1) := KA1.out.trans (hkm.kept (Nat.le_refl _)) (T := fun _ => False) (fun _ _ h => h) (fun q hq e => by have e2 : q = wz0.heap.size := e; omega)
        have KR2 : Hid (Kept (fun _ => False) W5 X1) := KR1.out.then (KA1.out.trans (hkm.kept (Nat.le_refl _)) (T := fun _ => False) (fun _ _ h => h) (fun q hq e => by have e2 : q = wz0.heap.size := e; omega))
        have HD1 := Lib.hid hK
        obtain ⟨ag1, cg1, hfg⟩ := (Ints.ofOwns hown).form
        subst hfg
        have HGI := Lib.hid (Ints.ofOwns hown)
        have gc := hv.cell
        obtain ⟨kk, hkk⟩ : ∃ kk, kk = min L.length r := ⟨_, rfl⟩
        have hlk : (L.take r).length = kk := by rw [List.length_take, hkk, Nat.min_comm]
        rw [hlk] at gc
        have hHU := HU4.out.kept (K5.out.then KR2.out) (fun _ _ h => h)
        have hcp := ints_cap hHU
        have hTK : L.take r = L.take kk := by
          rw [hkk]
          rcases Nat.le_total L.length r with h | h
          · rw [Nat.min_eq_left h, List.take_of_length_le h, List.take_length]
          · rw [Nat.min_eq_right h]
        have HE1 : Hid (∀ W', Kept (fun _ => False) X1 W' → Calls Tryd.prog 15 #[.slice ag1 kk cg1, .slice a4 kk c4] W' fun e w' => e = .returned (.bool true) ∧ Kept (fun _ => False) W' w') := fun W' k => by
          have h1 := HGI.out.kept k (fun _ _ h => h)
          rw [hlk, hTK] at h1
          have h2 := ints_cut (k := kk) (hHU.kept k (fun _ _ h => h)) (by omega)
          have h3 := equali_any W' _ _ _ _ h1 h2
          simpa using h3
        have mn : min (L.length : Int) (r : Int) = (kk : Int) := by omega
        have m0 : (0 : Int) ≤ (kk : Int) := by omega
        have m1 : (kk : Int) ≤ (L.length : Int) := by omega
        have m2 : (kk : Int) ≤ (c4 : Int) := by omega
        have m3 : kk ≤ c4 := by omega
        have hgX : wz0.heap.size < X1.heap.size := hv.lt
        obtain ⟨q0, q1, qn⟩ := HQ.out X1 KR2.out
        clear hown hat hkm hK hv hHU hTK hlk HGI
        have GC := Lib.hid gc; have QN := Lib.hid qn; have DR := Lib.hid ((Kept.refl (fun _ => False) X1).drew)
        have HKK := Lib.hid hkk
        clear hkk
        go_wp2_with fail
        go_region_held3 (fun w' => w'.cell? ⟨wz0.heap.size, 0, none⟩ = some (.slice ag1 kk cg1) ∧ w'.cell? ⟨w4.heap.size + 1, 0, none⟩ = some (.int .i64 r))
          (first | exact ⟨GC.out, QN.out⟩ | exact ⟨(KZ.out.cell (p := ⟨wz0.heap.size, 0, none⟩) (by simp; omega) (fun h => h)).trans GC.out, (KZ.out.cell (p := ⟨w4.heap.size + 1, 0, none⟩) (by simp; omega) (fun h => h)).trans QN.out⟩)
          ((go_at_call 15; refine (HE1.out _ DR.out).mono ?_; rintro e wz1 ⟨rfl, kz⟩; have KZ := Lib.hid (DR.out.then kz); clear kz))
        all_goals
          have KS2 : Hid (Kept (fun _ => False) W5 wz1) := KR2.out.then KZ.out
          have KP1 : Hid (Kept (fun _ => False) wz0 wz1) := KQ1.out.then KZ.out
          have HDS1 : Hid (wz1.heap[D1]? = some (.deferred (some []))) := (KZ.out.block D1 (Array.getElem?_eq_some_iff.1 HD1.out).1 (fun h => h)).trans HD1.out
          clear mn m0 m1 m2 m3 gc qn q0 q1 KR2 HD1 HE1 GC QN DR KZ
          have KR2 := KS2
          clear KS2
          go_wp2_with fail
          rw [rounds_succ]
          have HDX : Hid (D0 < D1) := Nat.lt_of_lt_of_le (Nat.lt_of_lt_of_le (Array.getElem?_eq_some_iff.1 HDS0.out).1 KA1.out.size) hD1
          have HDT0 : Hid (wz1.heap[D0]? = some (.deferred (some []))) := (KP1.out.block D0 (Array.getElem?_eq_some_iff.1 HDS0.out).1 (fun h => h)).trans HDS0.out
          have HD0w : Hid (w.heap.size ≤ D0) := Nat.le_trans (Nat.le_trans (K4.out.then K5.out).size KA0.out.size) hD0
          have HLI : Hid (∀ W, Kept (fun _ => False) W5 W → Calls Tryd.prog 16 #[.agg #[.int .u64 lo, .slice va n vc]] W fun e w' => ∃ u, e = .returned u ∧ w'.ownsRow 0 3 1 u L.length (L.map (Value.int .i64)) ∧ (∀ k, u.ownBlock = some k → W.heap.size ≤ k) ∧ Kept (fun _ => False) W w') := fun W k => by
            have := list_any W _ M (HS4.out.onC (K5.out.then k)) HSM.out (HL.out.kept (K4.out.then (K5.out.then k))).tz
            rw [← HLL.out] at this
            exact this
          have HBY : Hid (∀ W, Kept (fun _ => False) W5 W → Calls Tryd.prog 17 #[.agg #[.int .u64 lo, .slice va n vc]] W fun e w' => ∃ v', e = .returned v' ∧ Fresh w' W.heap.size v' (bytesOf M) ∧ Kept (fun _ => False) W w') := fun W k =>
            bytes_any W _ M (HS4.out.onC (K5.out.then k)) HSM.out
          have HBL := bytesOf_lenR HSM.out
          obtain ⟨NB, hNB⟩ : ∃ NB, NB = (bytesOf M).length := ⟨_, rfl⟩
          rw [← hNB] at HBL
          have HNB := Lib.hid hNB
          have hLn := HLN.out
          clear hNB HDS0 KP1 KQ1 hD1
          have DR := Lib.hid ((Kept.refl (fun _ => False) wz1).drew)
          obtain ⟨q0, q1, qn⟩ := HQ.out wz1 KR2.out
          have hq4 : w4.heap.size < wz1.heap.size := World.block_lt_of_cell? _ _ q0
          go_wp2_with fail
          go_region_held3 (fun w' => w'.cell? ⟨w4.heap.size, 0, none⟩ = some (.int .u64 lo) ∧ w'.cell? ⟨w4.heap.size, 1, none⟩ = some (.slice va n vc))
            (first | exact ⟨(HQ.out _ (KR2.out.then KB.out)).1, (HQ.out _ (KR2.out.then KB.out)).2.1⟩ | exact ⟨(HQ.out _ (KR2.out.then KL.out)).1, (HQ.out _ (KR2.out.then KL.out)).2.1⟩ | exact ⟨(HQ.out _ (KR2.out.then DR.out)).1, (HQ.out _ (KR2.out.then DR.out)).2.1⟩)
            ((first | (go_at_call 16; refine (HLI.out _ (KR2.out.then DR.out)).mono ?_; rintro e wl ⟨ul, rfl, hul, hbl, kl⟩; have KL := Lib.hid (DR.out.then kl); have KL2 := Lib.hid kl; obtain ⟨al, cl, rfl, hwl⟩ := wrt_of_owns hul; have HWL := Lib.hid hwl; have HBO := Lib.hid hbl; have HLT := Lib.hid (fun k hk => (hul.lt k hk).2); clear hul hbl kl hwl) | (go_at_call 17; refine (HBY.out _ (KR2.out.then KL.out)).mono ?_; rintro e wb ⟨ub, rfl, hub, kb⟩; have KB := Lib.hid (KL.out.then kb); have KB2 := Lib.hid kb; obtain ⟨ab, cb, rfl, hwb⟩ := wrt_of_owns hub.own; have HWB := Lib.hid hwb; have HBB := Lib.hid hub.block; clear hub kb hwb)))
          all_goals
            have HWL2 := Lib.hid (HWL.out.kept KB2.out)
            have KBZ := Lib.hid KB.out
            have hsl : wz1.heap.size ≤ wl.heap.size := KL.out.size
            have hsb : wl.heap.size ≤ wb.heap.size := KB2.out.size
            rw [← HNB.out] at HWB HBB ⊢
            clear HLI HBY q0 q1 qn KL KB KL2 KB2 HWL DR
            go_wp2_with fail
            go_loopw [54] (fun iv wr => ∃ k : Nat, k ≤ L.length ∧ iv = .int .i64 k ∧ Hid (Wrt wr al L.length ∧ Kept (fun j => (Value.slice al L.length cl).ownBlock = some j) wb wr)) (fun iv _ => L.length - (intOf iv).toNat)
            case atStart => exact ⟨0, by omega, rfl, HWL2.out, Kept.refl _ _⟩
            case round =>
              obtain ⟨k, hk, rfl, hin⟩ := hrel
              by_cases hlt : k < L.length
              · have t0 : (0 : Int) ≤ (k : Int) := by omega
                have t1 : (k : Int) < (L.length : Int) := by omega
                obtain ⟨g, hg, hgl, hcs⟩ := hin.out.1 (by omega)
                obtain ⟨old, hc⟩ := Option.isSome_iff_exists.1 (hcs k hlt).1
                have hf := (hcs k hlt).2
                have HIN : Hid (Wrt (wr.setCell ⟨g, k, none⟩ (.int .i64 7)) al L.length ∧ Kept (fun j => (Value.slice al L.length cl).ownBlock = some j) wb (wr.setCell ⟨g, k, none⟩ (.int .i64 7))) :=
                  ⟨by rw [hg]; exact Wrt.set (hg ▸ hin.out.1) k _, hin.out.2.trans (Kept.setCell _ _ _ _ (by rw [hg]; rfl)) (fun _ _ h => h) (fun _ _ h => h)⟩
                rw [hg] at HIN ⊢
                clear hcs hin
                go_wp2_with fail
                go_roundw
                case rel => exact ⟨k + 1, by omega, by go_num, HIN⟩
                case measure => simp [intOf]; omega
              · obtain rfl : k = L.length := by omega
                have KT : Hid (Kept (fun j => (Value.slice al L.length cl).ownBlock = some j) wb wr) := hin.out.2
                have HWB2 : Hid (Wrt wr ab NB) := fun h0 => by
                  obtain ⟨g, e, hg, hcs⟩ := HWB.out h0
                  have hgb : wl.heap.size ≤ g := HBB.out g (by rw [e]; rfl)
                  have hno : ¬ (Value.slice al L.length cl).ownBlock = some g := fun e2 => by
                    have := HLT.out g e2
                    omega
                  exact ⟨g, e, Nat.lt_of_lt_of_le hg KT.out.size, fun i hi => ⟨by rw [KT.out.cell (p := ⟨g, i, none⟩) hg hno]; exact (hcs i hi).1, (KT.out.frozen (p := ⟨g, i, none⟩) hg hno).trans (hcs i hi).2⟩⟩
                clear hin HWL2 HWB
                obtain ⟨wq, hwq⟩ : ∃ wq : World, wq = wr := ⟨_, rfl⟩
                rw [← hwq] at KT HWB2 ⊢
                clear hwq
                go_wp2_with fail
                go_loopw [63] (fun iv wr => ∃ k : Nat, k ≤ NB ∧ iv = .int .i64 k ∧ Hid (Wrt wr ab NB ∧ Kept (fun j => (Value.slice ab NB cb).ownBlock = some j) wq wr)) (fun iv _ => NB - (intOf iv).toNat)
                case atStart => exact ⟨0, by omega, rfl, HWB2.out, Kept.refl _ _⟩
                case round =>
                  obtain ⟨k, hk, rfl, hin⟩ := hrel
                  by_cases hlt : k < NB
                  · have t0 : (0 : Int) ≤ (k : Int) := by omega
                    have t1 : (k : Int) < (NB : Int) := by omega
                    obtain ⟨g, hg, hgl, hcs⟩ := hin.out.1 (by omega)
                    obtain ⟨old, hc⟩ := Option.isSome_iff_exists.1 (hcs k hlt).1
                    have hf := (hcs k hlt).2
                    have HIN : Hid (Wrt (wr.setCell ⟨g, k, none⟩ (.int .u8 255)) ab NB ∧ Kept (fun j => (Value.slice ab NB cb).ownBlock = some j) wq (wr.setCell ⟨g, k, none⟩ (.int .u8 255))) :=
                      ⟨by rw [hg]; exact Wrt.set (hg ▸ hin.out.1) k _, hin.out.2.trans (Kept.setCell _ _ _ _ (by rw [hg]; rfl)) (fun _ _ h => h) (fun _ _ h => h)⟩
                    rw [hg] at HIN ⊢
                    clear hcs hin
                    go_wp2_with fail
                    go_roundw
                    case rel => exact ⟨k + 1, by omega, by go_num, HIN⟩
                    case measure => simp [intOf]; omega
                  · obtain rfl : k = NB := by omega
                    have hq1 : w4.heap.size ≤ wz1.heap.size := (K5.out.then KR2.out).size
                    have KZ : Hid (Kept (fun _ => False) wz1 wr) := (KBZ.out.trans KT.out (T := fun _ => False) (fun _ _ h => h) (fun q hq e => by have h3 : wz1.heap.size ≤ q := HBO.out q e; omega)).trans hin.out.2 (fun _ _ h => h) (fun q hq e => by have h3 : wl.heap.size ≤ q := HBB.out q e; omega)
                    have KW := Lib.hid (KR2.out.then KZ.out)
                    obtain ⟨q0, q1, qn⟩ := HQ.out wr KW.out
                    have HIS := Lib.hid (is_any wr _ (.slice a4 L.length c4) M (HS4.out.onC (K5.out.then KW.out)) HSM.out (by rw [← HLL.out]; exact HU4.out.kept (K5.out.then KW.out) (fun _ _ h => h)) (HL.out.kept (K4.out.then (K5.out.then KW.out))).tz)
                    clear hin KT HWB2
                    go_wp2_with fail
                    refine HIS.out.mono ?_
                    rintro e we ⟨rfl, ke⟩
                    have KE := Lib.hid (KZ.out.then ke)
                    have HDE1 : Hid (we.heap[D1]? = some (.deferred (some []))) := (KE.out.block D1 (Array.getElem?_eq_some_iff.1 HDS1.out).1 (fun h => h)).trans HDS1.out
                    have HDE0 : Hid (we.heap[D0]? = some (.deferred (some []))) := (KE.out.block D0 (Array.getElem?_eq_some_iff.1 HDT0.out).1 (fun h => h)).trans HDT0.out
                    have KF := Lib.hid ((K4.out.then (K5.out.then KR2.out)).then KE.out)
                    clear ke q0 q1 qn
                    go_wp2_with fail
                    have hp1 : KeepM (fun _ => False) D1 we (we.putObj D1 (.deferred none)) := KeepM.putB we D1 _ (.deferred none) (Nat.le_refl _) HDE1.out rfl rfl
                    have HDF0 : (we.putObj D1 (.deferred none)).heap[D0]? = some (.deferred (some [])) := (hp1.block D0 HDX.out (Array.getElem?_eq_some_iff.1 HDE0.out).1 (fun h => h)).trans HDE0.out
                    have hp2 : KeepM (fun _ => False) w.heap.size we (we.putObj D1 (.deferred none)) := KeepM.putB we D1 _ (.deferred none) (Nat.le_trans HD0w.out (Nat.le_of_lt HDX.out)) HDE1.out rfl rfl
                    have hp3 : KeepM (fun _ => False) w.heap.size (we.putObj D1 (.deferred none)) ((we.putObj D1 (.deferred none)).putObj D0 (.deferred none)) := KeepM.putB _ D0 _ (.deferred none) HD0w.out HDF0 rfl rfl
                    have hp0 : KeepM (fun _ => False) w.heap.size w we := ⟨KF.out.os, KF.out.tape, KF.out.output, KF.out.size, fun i _ h2 h3 => KF.out.block i h2 h3⟩
                    have hfin := ((hp0.trans hp2).trans hp3).kept (Nat.le_refl _)
                    refine ⟨by simp, .inl ⟨_, _, rfl, run_takeDeferred HDE1.out, ?_⟩⟩
                    refine ⟨by simp, .inl ⟨_, _, rfl, run_takeDeferred HDF0, ?_⟩⟩
                    exact ⟨_, results_tmp rfl _ _ _, rfl, hfin⟩
end Go.Proofs.YtkgpnnegjhnjdaaDoor
