/-
  bits.Set.List: the members in ascending order.
-/
import Derived.Test.YteaagllpkcpedaaDoorBLen
import Derived.Deep.RegionHeld3
import Derived.Deep.DrawnRows
import Derived.Laws.MakeOwn
namespace Go.Proofs.YteaagllpkcpedaaDoor
open Go.RowKit
attribute [local go_sem ↓] Go.wp_at_zero Go.wp_at_succ
set_option linter.unusedSimpArgs false

theorem AllAt.blocks {a b : World} {B M : Nat} {hv : Value} {hs : List Nat} (h : AllAt a B M hv hs) (hsz : a.heap.size ≤ b.heap.size) (h1 : b.heap[B]? = a.heap[B]?) (h2 : ∀ k, hv.ownBlock = some k → b.heap[k]? = a.heap[k]?) (h3 : b.heap[2]? = a.heap[2]?) : AllAt b B M hv hs := by
  refine ⟨(World.cell?_of_block (w := a) h1).trans h.c0, (World.cell?_of_block (w := a) h1).trans h.c1, ?_, h.can, ⟨Nat.lt_of_lt_of_le h.tz.lt hsz, fun j hj => (World.cell?_of_block (w := a) h3).trans (h.tz.tab j hj)⟩⟩
  rcases h.words with hw | ⟨g, off, cap, rfl, e1, e2, e3, e4⟩
  · exact Or.inl hw
  · exact Or.inr ⟨g, off, cap, rfl, e1, e2, Nat.lt_of_lt_of_le e3 hsz, fun i hi => (World.cell?_of_block (w := a) (h2 g rfl)).trans (e4 i hi)⟩

/-- The iterator's contract, for whoever keeps what it reads. -/
theorem all_stops (S : Nat → Prop) (M' B M : Nat) (va : Option Addr) (vc : Nat) (hs : List Nat) (w : World) (hA : AllAt w B M (.slice va hs.length vc) hs) (hl : hs.length ≤ 63) (hB : B < M') (hB2 : ¬ S B)
    (hw : ∀ k, (Value.slice va hs.length vc).ownBlock = some k → k < M' ∧ ¬ S k) (hg : 2 < M') (hg2 : ¬ S 2) :
    SeqStopsK Fence.wide 2 Tryd.prog 72 #[.pointer (some ⟨B, 0, none⟩)] (fun x : Int => #[Value.int .i64 x]) (KeepM S M') (fun ys => ys = memM M (64 * (1 + hs.length))) (fun pre => pre <+: memM M (64 * (1 + hs.length))) (memM M (64 * (1 + hs.length))).length w := by
  intro l J Jx W hW hJ hJx hY h0
  have hBlt := World.block_lt_of_cell? w _ hA.c0
  have hA2 : AllAt W B M (.slice va hs.length vc) hs := hA.on (Kept.ofBelow _ hW)
  refine all1_in l B M va vc hs (KeepM S M') J Jx W (fun pre x W1 h1 h2 _ _ => hY pre x W1 h1 h2) (fun a b hk ha => ?_) (fun pre a b _ hj hk => hJ pre a b none hj (kept_grown hk) (fun r e => by cases e)) (fun a b hk => hk.size) hA2 hl h0
  have h1 := World.block_lt_of_cell? a _ ha.c0
  refine ha.blocks hk.size (hk.block B hB h1 hB2) (fun k hk2 => ?_) (hk.block _ hg ha.tz.lt hg2)
  exact hk.block k (hw k hk2).1 (ha.words.lt k hk2) (hw k hk2).2

/-- A number that can be a member. -/
abbrev Mem : Type := {x : Int // 0 ≤ x ∧ x ≤ 4095}
/-- The iterator's contract, for a consumer who asks that what comes can be a member. -/
theorem all_stopsM (S : Nat → Prop) (M' B M : Nat) (va : Option Addr) (vc : Nat) (hs : List Nat) (w : World) (hA : AllAt w B M (.slice va hs.length vc) hs) (hl : hs.length ≤ 63) (hB : B < M') (hB2 : ¬ S B)
    (hw : ∀ k, (Value.slice va hs.length vc).ownBlock = some k → k < M' ∧ ¬ S k) (hg : 2 < M') (hg2 : ¬ S 2) :
    SeqStopsK Fence.wide 2 Tryd.prog 72 #[.pointer (some ⟨B, 0, none⟩)] (fun x : Mem => #[Value.int .i64 x.1]) (KeepM S M') (fun ys => ys.map (·.1) = memM M (64 * (1 + hs.length))) (fun pre => pre.map (·.1) <+: memM M (64 * (1 + hs.length))) (memM M (64 * (1 + hs.length))).length w := by
  intro l J Jx W hW hJ hJx hY h0
  have hBlt := World.block_lt_of_cell? w _ hA.c0
  have hA2 : AllAt W B M (.slice va hs.length vc) hs := hA.on (Kept.ofBelow _ hW)
  refine (all1_in l B M va vc hs (KeepM S M') (fun pre V => ∃ p : List Mem, p.map (·.1) = pre ∧ J p V) (fun pre V => ∃ p : List Mem, p.map (·.1) = pre ∧ Jx p V) W (fun pre x W1 h1 h2 h3 h4 => ?_) (fun a b hk ha => ?_)
    (fun pre a b _ hj hk => hj.imp fun p hp => ⟨hp.1, hJ p a b none hp.2 (kept_grown hk) (fun r e => by cases e)⟩) (fun a b hk => hk.size) hA2 hl ⟨[], rfl, h0⟩).mono ?_
  · obtain ⟨p, rfl, hp⟩ := h1
    obtain ⟨fn, tmps, assign, body, hy, hR⟩ := hY p ⟨x, h3, h4⟩ W1 hp (by simpa using h2)
    refine ⟨fn, tmps, assign, body, hy, hR.mono ?_⟩
    rintro e W' (⟨rfl, a, b⟩ | ⟨rfl, a⟩)
    · exact .inl ⟨rfl, ⟨p ++ [⟨x, h3, h4⟩], by rw [List.map_append]; rfl, a⟩, b⟩
    · exact .inr ⟨rfl, ⟨p ++ [⟨x, h3, h4⟩], by rw [List.map_append]; rfl, a⟩⟩
  · have h1 := World.block_lt_of_cell? a _ ha.c0
    refine ha.blocks hk.size (hk.block B hB h1 hB2) (fun k hk2 => ?_) (hk.block _ hg ha.tz.lt hg2)
    exact hk.block k (hw k hk2).1 (ha.words.lt k hk2) (hw k hk2).2
  · rintro e W' ⟨he, ⟨ys, h1, p, rfl, h3⟩ | ⟨pre, h1, p, rfl, h3⟩⟩
    · exact ⟨he, .inl ⟨p, h1, h3⟩⟩
    · exact ⟨he, .inr ⟨p, h1, h3⟩⟩

theorem memM_all {M : Nat} {hs : List Nat} (hc : Canon hs (M / 2 ^ 64)) (hl : hs.length ≤ 63) : memM M (64 * (1 + hs.length)) = memM M 4096 := by
  have hlt : M < 2 ^ (64 * (1 + hs.length)) := by
    have h1 := hc.lt
    rw [show 64 * (1 + hs.length) = 64 * hs.length + 64 by omega, Nat.pow_add]
    exact (Nat.div_lt_iff_lt_mul (Nat.pow_pos (by omega))).1 h1
  have := memM_skip (M := M) (a := 64 * (1 + hs.length)) (4096 - 64 * (1 + hs.length)) fun i h1 _ => Nat.testBit_lt_two_pow (Nat.lt_of_lt_of_le hlt (Nat.pow_le_pow_right (by omega) h1))
  rw [show 64 * (1 + hs.length) + (4096 - 64 * (1 + hs.length)) = 4096 by omega] at this
  exact this.symm

set_option maxRecDepth 100000 in
theorem all_any (w : World) (lo : Nat) (va : Option Addr) (n vc : Nat) :
    Calls Tryd.prog 53 #[.agg #[.int .u64 lo, .slice va n vc]] w fun e w' => e = .returned (.func (.func 72) #[] #[.pointer (some ⟨w.heap.size, 0, none⟩)]) ∧ w' = w.alloc (.cells #[.int .u64 lo, .slice va n vc] 28) := by
  go_enter Tryd.func53, Tryd.ntmps53
  go_wp2_with fail
  go_ret
  exact ⟨rfl, rfl⟩

/-- The set's box behind All. -/
theorem allAt_new {w : World} {M : Nat} {va : Option Addr} {vc : Nat} {hs : List Nat} {k : Nat} (hw : Words w (.slice va k vc) hs) (hc : Canon hs (M / 2 ^ 64)) (hT : Tz w) :
    AllAt (w.alloc (.cells #[.int .u64 (M % 2 ^ 64 : Nat), .slice va k vc] 28)) w.heap.size M (.slice va k vc) hs :=
  ⟨by go_simp, by go_simp, hw.kept (Kept.alloc (fun _ => False) _ _) (fun _ _ h => h), hc, hT.kept (Kept.alloc (fun _ => False) _ _) (fun h => h)⟩

set_option maxRecDepth 100000 in
set_option maxHeartbeats 3200000 in
theorem list_any (w : World) (v : Value) (M : Nat) (h : SetV w v M) (hS : Small M) (hT : Tz w) :
    Calls Tryd.prog 36 #[v] w fun e w' => ∃ u, e = .returned u ∧ w'.ownsRow 0 3 1 u (memM M 4096).length ((memM M 4096).map (Value.int .i64)) ∧ (∀ k, u.ownBlock = some k → w.heap.size ≤ k) ∧ Kept (fun _ => False) w w' := by
  obtain ⟨i0, hi, hz0, hz1, hz2⟩ := info_parts info_int9
  obtain ⟨hv, hs, rfl, hw, hc, -⟩ := h.ex
  have hsm := hc.small hS
  have hall := memM_all hc hsm
  obtain ⟨va, vc, hf, -, -⟩ := words_form hw
  subst hf
  have hLN := fun (W : World) (k : Kept (fun _ => False) w W) => len_any W _ M _ hs rfl (hw.kept k (fun _ _ h => h)) hc hsm
  have hlen : lenS M hs ≤ 10000 := by
    have h1 := popS_le (M % 2 ^ 64)
    have h2 := pop_bound hs
    unfold lenS; omega
  have hml := memM_le M 4096
  obtain ⟨L, hL⟩ : ∃ L, L = memM M 4096 := ⟨_, rfl⟩
  obtain ⟨c, hcc⟩ : ∃ c, c = lenS M hs := ⟨_, rfl⟩
  rw [← hcc] at hLN hlen
  have hwlt := hw.lt
  have hglt := hT.lt
  have HSEQ : Hid (∀ (W : World) (B : Nat) (va0 : Option Addr) (vc0 : Nat), AllAt W B M (.slice va hs.length vc) hs → w.heap.size ≤ B → B < W.heap.size → (∀ g, va0 = some g → w.heap.size ≤ g.block ∧ g.block ≠ B ∧ g = ⟨g.block, 0, none⟩) → W.ownsRow 0 3 1 (.slice va0 0 vc0) 0 [] → w.heap.size ≤ W.heap.size →
      Calls Tryd.prog 55 #[.slice va0 0 vc0, .func (.func 72) #[] #[.pointer (some ⟨B, 0, none⟩)]] W fun e W' => ∃ u, e = .returned u ∧ W'.ownsRow 0 3 1 u L.length (L.map (Value.int .i64)) ∧ RowAt (.slice va0 0 vc0) W.heap.size u ∧ Kept (blk (.slice va0 0 vc0)) W W') := by
    intro W B va0 vc0 hA hB hB2 hva hrow hsz
    have hblk : ∀ k, blk (.slice va0 0 vc0) k → w.heap.size ≤ k ∧ k ≠ B := fun k hk => by
      cases va0 with
      | none => simp [blk, Value.ownBlock] at hk
      | some g =>
        obtain ⟨e1, e2, e3⟩ := hva g rfl
        have : g.block = k := by
          rw [e3] at hk
          simpa [blk, Value.ownBlock] using hk
        subst this
        exact ⟨e1, e2⟩
    have := appendSeq_any #[.pointer (some ⟨B, 0, none⟩)] L va0 vc0 W (fun S M' hM hS => by
      rw [hL, ← hall]
      refine all_stops S M' B M va vc hs W hA hsm (by omega) (fun hs2 => ?_) (fun k hk => ⟨by have := hwlt k hk; omega, fun hs2 => ?_⟩) (by omega) (fun hs2 => ?_)
      · rcases hS _ hs2 with h | h
        · omega
        · exact (hblk _ h).2 rfl
      · have h1 := hwlt k hk
        rcases hS _ hs2 with h | h
        · omega
        · have := (hblk _ h).1; omega
      · rcases hS _ hs2 with h | h
        · omega
        · have := (hblk _ h).1; omega) (by rw [hL]; omega) hrow
    exact this
  rw [← hL]
  have HLN := Lib.hid hLN; have HT := Lib.hid hT; have HW := Lib.hid hw; have HCN := Lib.hid hc
  clear h hS hall hw hc hLN hL hcc hml hwlt hT
  have HAL := Lib.hid (fun (W : World) (k : Kept (fun _ => False) w W) => allAt_new (M := M) (HW.out.kept k (fun _ _ h => h)) HCN.out (HT.out.kept k (fun h => h)))
  generalize hs.length = n at *
  obtain ⟨lo, hlo⟩ : ∃ lo, lo = M % 2 ^ 64 := ⟨_, rfl⟩
  rw [← hlo] at HLN HAL ⊢
  clear hlo
  go_enter Tryd.func36, Tryd.ntmps36
  have KA := Lib.hid (Kept.alloc (fun _ => False) w (.cells #[.int .u64 lo, .slice va n vc] 28))
  have hbx : Hid (∀ W, Kept (fun _ => False) (w.alloc (.cells #[.int .u64 lo, .slice va n vc] 28)) W → W.cell? ⟨w.heap.size, 0, none⟩ = some (.int .u64 lo) ∧ W.cell? ⟨w.heap.size, 1, none⟩ = some (.slice va n vc) ∧ w.heap.size < W.heap.size) := fun W hk => box_cells hk (fun h => h)
  go_wp2_with fail
  generalize w.alloc (.cells #[.int .u64 lo, .slice va n vc] 28) = wA at KA hbx ⊢
  have D0 := Lib.hid ((Kept.refl (fun _ => False) wA).drew)
  refine wp_region_held_drew (S := fun w' => w'.cell? ⟨w.heap.size, 0, none⟩ = some (.int .u64 lo) ∧ w'.cell? ⟨w.heap.size, 1, none⟩ = some (.slice va n vc)) (by kernel_rfl) ⟨(hbx.out _ D0.out).1, (hbx.out _ D0.out).2.1⟩ (fun _ => ?_)
  refine wpAnyH_take (i := 0) (v := .agg #[.int .u64 lo, .slice va n vc]) rfl (by kernel_rfl) (by kernel_rfl) (by kernel_rfl) (fun _ _ _ h => h) (Or.inl ⟨by simp [Region.wanted, yielded], fun W hS => by have h1 := hS.1; have h2 := hS.2; go_simp⟩) ⟨(hbx.out _ D0.out).1, (hbx.out _ D0.out).2.1⟩ ?_
  try (simp only [Act.put, List.getElem_toArray, List.getElem_cons_succ, List.getElem_cons_zero, List.setIfInBounds_toArray, List.set_cons_zero, List.set_cons_succ])
  refine wpAnyH_take (i := 3) (v := .agg #[.int .u64 lo, .slice va n vc]) rfl (by kernel_rfl) (by kernel_rfl) (by kernel_rfl) (fun _ _ _ h => h) (Or.inl ⟨by simp [Region.wanted, yielded], fun W hS => by have h1 := hS.1; have h2 := hS.2; go_simp⟩) ⟨(hbx.out _ D0.out).1, (hbx.out _ D0.out).2.1⟩ ?_
  try (simp only [Act.put, List.getElem_toArray, List.getElem_cons_succ, List.getElem_cons_zero, List.setIfInBounds_toArray, List.set_cons_zero, List.set_cons_succ])
  refine wpAnyH_ready (rs := [1]) (by kernel_rfl) (by simp) ?_
  refine AllReadyH.cons (o := _) rfl (fun K hK => ?_) AllReadyH.nil
  try (rw [if_pos (by simp [Region.wanted, yielded])])
  go_simp
  go_at_call 37
  refine (HLN.out wA.drew (KA.out.then D0.out)).mono ?_
  rintro e w1 ⟨rfl, k1⟩; have D1 := Lib.hid (D0.out.then k1); clear k1
  go_wp2_with fail
  refine hK.out _ _ ⟨(hbx.out _ D1.out).1, (hbx.out _ D1.out).2.1⟩ (fun _ => ?_)
  clear hK K
  try (simp only [Act.put, List.getElem_toArray, List.getElem_cons_succ, List.getElem_cons_zero, List.setIfInBounds_toArray, List.set_cons_zero, List.set_cons_succ])
  have hsz1 := (KA.out.then D1.out).size
  refine wpAnyH_ready (rs := [2, 4]) (by kernel_rfl) (by simp) ?_
  refine AllReadyH.cons (o := _) rfl (fun K hK => ?_) (AllReadyH.cons (o := _) rfl (fun K hK => ?_) AllReadyH.nil)
  · obtain ⟨w2, hmk, hown, hgr⟩ := run_make_own (P := Tryd.prog) w1 0 22 3 i0 (.int .i64 0) 1 Tryd.underlying22 hi hz0 hz1 .i64 .i64 c (by rw [hz2]; omega) (by unfold maxLen; omega) (Nat.zero_le _)
    have D2 := Lib.hid (D1.out.then (Kept.ofGrown (S := fun _ => False) hgr (fun k e => by cases e)))
    have HOWN := Lib.hid hown; have HGR := Lib.hid hgr
    clear hown hgr
    try (rw [if_pos (by simp [Region.wanted, yielded])])
    go_simp
    refine hK.out _ _ ⟨(hbx.out _ D2.out).1, (hbx.out _ D2.out).2.1⟩ (fun _ => ?_)
    clear hK K hmk
    try (simp only [Act.put, List.getElem_toArray, List.getElem_cons_succ, List.getElem_cons_zero, List.setIfInBounds_toArray, List.set_cons_zero, List.set_cons_succ])
    refine wpAnyH_ready (rs := [4]) (by kernel_rfl) (by simp) ?_
    refine AllReadyH.cons (o := _) rfl (fun K hK => ?_) AllReadyH.nil
    try (rw [if_pos (by simp [Region.wanted, yielded])])
    try (rw [if_pos (by simp [Region.wanted, yielded])])
    go_simp
    go_at_call 53
    refine (all_any w2 lo va n vc).mono ?_
    rintro e w3 ⟨rfl, hwal⟩
    have hAt := HAL.out w2 (KA.out.then D2.out)
    have hkal : Kept (fun _ => False) w2 w3 := by rw [hwal]; exact Kept.alloc _ _ _
    have HSZL : Hid (w3.heap.size = w2.heap.size + 1) := by rw [hwal]; show _ = _; simp
    rw [← hwal] at hAt
    have HAT := Lib.hid hAt; have D3 := Lib.hid (D2.out.then hkal); have HKAL := Lib.hid hkal
    clear hwal hAt hkal
    go_wp2_with fail
    refine hK.out _ _ ⟨(hbx.out _ D3.out).1, (hbx.out _ D3.out).2.1⟩ (fun _ => ?_)
    clear hK K
    try (simp only [Act.put, List.getElem_toArray, List.getElem_cons_succ, List.getElem_cons_zero, List.setIfInBounds_toArray, List.set_cons_zero, List.set_cons_succ])
    have hsz2 := D2.out.size
    have hszal := HSZL.out
    have HAT2 := HAT.out
    have hB1 : w.heap.size ≤ w2.heap.size := (KA.out.then D2.out).size
    have hB2 : w2.heap.size < w3.heap.size := by omega
    have hB3 : w.heap.size ≤ w1.heap.size := hsz1
    have hgw : w1.heap.size < w2.heap.size := (HOWN.out.lt w1.heap.size (by simp [Value.ownBlock])).2
    have hB4 : w1.heap.size ≠ w2.heap.size := by omega
    have hB5 : w.heap.size ≤ w3.heap.size := by omega
    have hxA := KA.out.size
    have hwA1 := D1.out.size
    have HROW := HKAL.out.owns HOWN.out (fun _ _ h => h)
    clear hszal
    have HSQ := Lib.hid (HSEQ.out w3 w2.heap.size (some ⟨w1.heap.size, 0, none⟩) c HAT2 hB1 hB2 (fun g hg => by cases hg; exact ⟨hB3, hB4, rfl⟩) HROW hB5)
    clear HAT2 HROW
    refine wpAnyH_ready (rs := [5]) (by kernel_rfl) (by simp) ?_
    refine AllReadyH.cons (o := _) rfl (fun K hK => ?_) AllReadyH.nil
    try (rw [if_pos (by simp [Region.wanted, yielded])])
    go_simp
    go_at_call 55
    refine (HSQ.out).mono ?_
    rintro e w4 ⟨u, rfl, hu, hat4, k4⟩; have HU := Lib.hid hu; have HAT4 := Lib.hid hat4; have HK4 := Lib.hid k4; have D4 : Hid (Kept (fun _ => False) wA w4) := D3.out.trans k4 (fun _ _ h => h) (fun i hi e => by have e2 : w1.heap.size = i := (by simpa [blk, Value.ownBlock] using e); omega); clear hu hat4 k4
    go_wp2_with fail
    refine hK.out _ _ ⟨(hbx.out _ D4.out).1, (hbx.out _ D4.out).2.1⟩ (fun _ => ?_)
    clear hK K
    try (simp only [Act.put, List.getElem_toArray, List.getElem_cons_succ, List.getElem_cons_zero, List.setIfInBounds_toArray, List.set_cons_zero, List.set_cons_succ])
    refine wpAnyH_take (i := 6) (v := u) rfl (by kernel_rfl) (by kernel_rfl) (by kernel_rfl) (fun _ _ _ h => h) (Or.inl ⟨by simp [Region.wanted, yielded], fun W hS => by go_simp⟩) ⟨(hbx.out _ D4.out).1, (hbx.out _ D4.out).2.1⟩ ?_
    try (simp only [Act.put, List.getElem_toArray, List.getElem_cons_succ, List.getElem_cons_zero, List.setIfInBounds_toArray, List.set_cons_zero, List.set_cons_succ])
    refine wpAnyH_done (by kernel_rfl) ?_ _
    go_wp2_with fail
    go_ret
    exact ⟨u, rfl, HU.out, fun k hk => (HAT4.out k hk).elim (fun e => by have e2 : w1.heap.size = k := (by simpa [blk, Value.ownBlock] using e); omega) (fun e => by omega), KA.out.then D4.out⟩
  · try (rw [if_pos (by simp [Region.wanted, yielded])])
    go_simp
    go_at_call 53
    refine (all_any w1 lo va n vc).mono ?_
    rintro e w2 ⟨rfl, hwal⟩
    have hAt := HAL.out w1 (KA.out.then D1.out)
    have hkal : Kept (fun _ => False) w1 w2 := by rw [hwal]; exact Kept.alloc _ _ _
    have HSZL : Hid (w2.heap.size = w1.heap.size + 1) := by rw [hwal]; show _ = _; simp
    rw [← hwal] at hAt
    have HAT := Lib.hid hAt; have D2 := Lib.hid (D1.out.then hkal); have HKAL := Lib.hid hkal
    clear hwal hAt hkal
    go_wp2_with fail
    refine hK.out _ _ ⟨(hbx.out _ D2.out).1, (hbx.out _ D2.out).2.1⟩ (fun _ => ?_)
    clear hK K
    try (simp only [Act.put, List.getElem_toArray, List.getElem_cons_succ, List.getElem_cons_zero, List.setIfInBounds_toArray, List.set_cons_zero, List.set_cons_succ])
    refine wpAnyH_ready (rs := [2]) (by kernel_rfl) (by simp) ?_
    refine AllReadyH.cons (o := _) rfl (fun K hK => ?_) AllReadyH.nil
    try (rw [if_pos (by simp [Region.wanted, yielded])])
    obtain ⟨w3, hmk, hown, hgr⟩ := run_make_own (P := Tryd.prog) w2 0 22 3 i0 (.int .i64 0) 1 Tryd.underlying22 hi hz0 hz1 .i64 .i64 c (by rw [hz2]; omega) (by unfold maxLen; omega) (Nat.zero_le _)
    have D3 := Lib.hid (D2.out.then (Kept.ofGrown (S := fun _ => False) hgr (fun k e => by cases e)))
    have HOWN := Lib.hid hown; have HGR := Lib.hid hgr
    clear hown hgr
    try (rw [if_pos (by simp [Region.wanted, yielded])])
    go_simp
    refine hK.out _ _ ⟨(hbx.out _ D3.out).1, (hbx.out _ D3.out).2.1⟩ (fun _ => ?_)
    clear hK K hmk
    try (simp only [Act.put, List.getElem_toArray, List.getElem_cons_succ, List.getElem_cons_zero, List.setIfInBounds_toArray, List.set_cons_zero, List.set_cons_succ])
    have hsz2 := D2.out.size
    have hszal := HSZL.out
    have HAT2 := HAT.out.on (Kept.ofGrown (S := fun _ => False) HGR.out (fun k e => by cases e))
    have hB1 : w.heap.size ≤ w1.heap.size := hsz1
    have hgw : w2.heap.size < w3.heap.size := (HOWN.out.lt w2.heap.size (by simp [Value.ownBlock])).2
    have hB2 : w1.heap.size < w3.heap.size := by omega
    have hB3 : w.heap.size ≤ w2.heap.size := by omega
    have hB4 : w2.heap.size ≠ w1.heap.size := by omega
    have hB5 : w.heap.size ≤ w3.heap.size := by omega
    have hxA := KA.out.size
    have hwA1 := D1.out.size
    have HROW := HOWN.out
    clear hszal
    have HSQ := Lib.hid (HSEQ.out w3 w1.heap.size (some ⟨w2.heap.size, 0, none⟩) c HAT2 hB1 hB2 (fun g hg => by cases hg; exact ⟨hB3, hB4, rfl⟩) HROW hB5)
    clear HAT2 HROW
    refine wpAnyH_ready (rs := [5]) (by kernel_rfl) (by simp) ?_
    refine AllReadyH.cons (o := _) rfl (fun K hK => ?_) AllReadyH.nil
    try (rw [if_pos (by simp [Region.wanted, yielded])])
    go_simp
    go_at_call 55
    refine (HSQ.out).mono ?_
    rintro e w4 ⟨u, rfl, hu, hat4, k4⟩; have HU := Lib.hid hu; have HAT4 := Lib.hid hat4; have HK4 := Lib.hid k4; have D4 : Hid (Kept (fun _ => False) wA w4) := D3.out.trans k4 (fun _ _ h => h) (fun i hi e => by have e2 : w2.heap.size = i := (by simpa [blk, Value.ownBlock] using e); omega); clear hu hat4 k4
    go_wp2_with fail
    refine hK.out _ _ ⟨(hbx.out _ D4.out).1, (hbx.out _ D4.out).2.1⟩ (fun _ => ?_)
    clear hK K
    try (simp only [Act.put, List.getElem_toArray, List.getElem_cons_succ, List.getElem_cons_zero, List.setIfInBounds_toArray, List.set_cons_zero, List.set_cons_succ])
    refine wpAnyH_take (i := 6) (v := u) rfl (by kernel_rfl) (by kernel_rfl) (by kernel_rfl) (fun _ _ _ h => h) (Or.inl ⟨by simp [Region.wanted, yielded], fun W hS => by go_simp⟩) ⟨(hbx.out _ D4.out).1, (hbx.out _ D4.out).2.1⟩ ?_
    try (simp only [Act.put, List.getElem_toArray, List.getElem_cons_succ, List.getElem_cons_zero, List.setIfInBounds_toArray, List.set_cons_zero, List.set_cons_succ])
    refine wpAnyH_done (by kernel_rfl) ?_ _
    go_wp2_with fail
    go_ret
    exact ⟨u, rfl, HU.out, fun k hk => (HAT4.out k hk).elim (fun e => by have e2 : w2.heap.size = k := (by simpa [blk, Value.ownBlock] using e); omega) (fun e => by omega), KA.out.then D4.out⟩
end Go.Proofs.YteaagllpkcpedaaDoor
