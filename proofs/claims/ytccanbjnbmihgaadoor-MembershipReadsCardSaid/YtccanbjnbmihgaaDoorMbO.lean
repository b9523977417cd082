/-
  membership: On: the set of a user's roles on a day.
-/
import Derived.Test.YtccanbjnbmihgaaDoorMbU
import Derived.Test.YtccanbjnbmihgaaDoorBWith
namespace Go.Proofs.YtccanbjnbmihgaaDoor
open Go.RowKit Go.Shelf
set_option linter.unusedVariables false
set_option linter.unusedSimpArgs false

def pairV (p : Nat × Value) : Value := .agg #[.int .u64 p.1, p.2]
/-- A set in a block of two cells. -/
structure BoxS (w : World) (g : Nat) (p : Nat × Value) (M : Nat) : Prop where
  c0 : w.cell? ⟨g, 0, none⟩ = some (.int .u64 p.1)
  c1 : w.cell? ⟨g, 1, none⟩ = some p.2
  f0 : w.frozen? ⟨g, 0, none⟩ = false
  f1 : w.frozen? ⟨g, 1, none⟩ = false
  lt : g < w.heap.size
  set : SetV w (pairV p) M
  apart : ∀ k, setBlk (pairV p) k → k ≠ g
theorem SetV.ltB {w : World} {v : Value} {M : Nat} (h : SetV w v M) : ∀ k, setBlk v k → k < w.heap.size := fun k ⟨lo, hv, e, hk⟩ => by
  obtain ⟨hv', hs, e', hw, _, _⟩ := h.ex
  rw [e'] at e
  have : hv' = hv := by simp at e; exact e.2
  subst this
  exact hw.lt k hk
theorem SetV.keptB {S : Nat → Prop} {a b : World} {v : Value} {M : Nat} (h : SetV a v M) (hk : Kept S a b) (hn : ∀ k, setBlk v k → ¬ S k) : SetV b v M := by
  obtain ⟨hv, hs, e, hw, hc, hz⟩ := h.ex
  exact ⟨hv, hs, e, hw.kept hk (fun k h => hn k ⟨_, _, e, h⟩), hc, hz⟩
theorem SetV.form2 {w : World} {v : Value} {M : Nat} (h : SetV w v M) : ∃ (lo : Nat) (a : Option Addr) (n c : Nat), v = .agg #[.int .u64 lo, .slice a n c] := by
  obtain ⟨hv, hs, e, hw, hc, hz⟩ := h.ex
  obtain ⟨a, c, rfl⟩ := hw.form
  exact ⟨_, a, _, c, e⟩
theorem BoxS.kept {S : Nat → Prop} {a b : World} {g : Nat} {p : Nat × Value} {M : Nat} (h : BoxS a g p M) (hk : Kept S a b) (hS : ∀ k, k < a.heap.size → ¬ S k) : BoxS b g p M :=
  ⟨(hk.cell (p := ⟨g, 0, none⟩) h.lt (hS g h.lt)).trans h.c0, (hk.cell (p := ⟨g, 1, none⟩) h.lt (hS g h.lt)).trans h.c1,
   (hk.frozen (p := ⟨g, 0, none⟩) h.lt (hS g h.lt)).trans h.f0, (hk.frozen (p := ⟨g, 1, none⟩) h.lt (hS g h.lt)).trans h.f1,
   Nat.lt_of_lt_of_le h.lt hk.size, h.set.keptB hk (fun k hb => hS k (h.set.ltB k hb)), h.apart⟩
/-- Another set is laid into the block. -/
theorem BoxS.put {a : World} {g : Nat} {p q : Nat × Value} {M N : Nat} (h : BoxS a g p M) (hq : SetV a (pairV q) N) (ha : ∀ k, setBlk (pairV q) k → k ≠ g) :
    BoxS ((a.setCell ⟨g, 0, none⟩ (.int .u64 (q.1 : Int))).setCell ⟨g, 1, none⟩ q.2) g q N := by
  have k2 : Kept (fun k => k = g) a ((a.setCell ⟨g, 0, none⟩ (.int .u64 (q.1 : Int))).setCell ⟨g, 1, none⟩ q.2) := (Kept.setCell (fun k => k = g) a ⟨g, 0, none⟩ _ rfl).trans (Kept.setCell (fun k => k = g) _ ⟨g, 1, none⟩ _ rfl) (fun _ _ h => h) (fun _ _ h => h)
  refine ⟨?_, ?_, ?_, ?_, Nat.lt_of_lt_of_le h.lt k2.size, hq.keptB k2 ha, ha⟩
  · rw [World.cell?_setCell_other _ _ _ _ (fun e => by simp at e)]
    exact World.cell?_setCell_same _ _ _ h.c0
  · exact World.cell?_setCell_same _ _ _ ((World.cell?_setCell_other _ _ _ _ (fun e => by simp at e)).trans h.c1)
  · rw [World.frozen?_setCell, World.frozen?_setCell]; exact h.f0
  · rw [World.frozen?_setCell, World.frozen?_setCell]; exact h.f1

/-- The mask of the first k entries' roles that are active. -/
def onM (l : List Ent) (d : Int) : Nat := l.foldl (fun M x => if actE x.t d then M ||| 2 ^ x.r.toNat else M) 0
theorem onM_small (l : List Ent) (d : Int) (h : ∀ x ∈ l, 1 ≤ x.r ∧ x.r ≤ 63 ∧ 0 ≤ x.t ∧ x.t ≤ 30000) : Small (onM l d) := by
  have key : ∀ (l : List Ent) (M : Nat), Small M → (∀ x ∈ l, 1 ≤ x.r ∧ x.r ≤ 63 ∧ 0 ≤ x.t ∧ x.t ≤ 30000) → Small (l.foldl (fun M x => if actE x.t d then M ||| 2 ^ x.r.toNat else M) M) := by
    intro l
    induction l with
    | nil => intro M hM _; exact hM
    | cons x t ih =>
      intro M hM hx
      rw [List.foldl_cons]
      refine ih _ ?_ (fun y hy => hx y (by simp [hy]))
      have := hx x (by simp)
      split
      · exact small_with hM (by omega)
      · exact hM
  exact key l 0 (fun e he => Nat.two_pow_pos e) h
theorem onM_succ (l : List Ent) (d : Int) (k : Nat) (hk : k < l.length) : onM (l.take (k + 1)) d = if actE (l.getD k ent0).t d then onM (l.take k) d ||| 2 ^ (l.getD k ent0).r.toNat else onM (l.take k) d := by
  unfold onM
  rw [List.take_add_one, List.foldl_append]
  simp [List.getD, hk]

theorem newS (w : World) : BoxS (w.alloc (.cells #[.int .u64 0, .slice none 0 0] 56)) w.heap.size (0, .slice none 0 0) 0 := by
  refine ⟨by go_simp, by go_simp, by go_simp, by go_simp, by simp, ⟨.slice none 0 0, [], rfl, Or.inl ⟨rfl, rfl⟩, ?_, fun _ => rfl⟩, fun k ⟨lo, hv, e, hk⟩ => ?_⟩
  · constructor <;> simp [wl]
  · simp [pairV] at e
    obtain ⟨-, rfl⟩ := e
    simp [Value.ownBlock] at hk

/-- What On's loop keeps: the result's block stands at P, the set's at P + 1. -/
structure OnInv (w wr : World) (P M : Nat) (p : Nat × Value) : Prop where
  box : BoxS wr (P + 1) p M
  r0 : wr.cell? ⟨P, 0, none⟩ = some (.int .u64 0)
  r1 : wr.cell? ⟨P, 1, none⟩ = some (.slice none 0 0)
  g0 : wr.frozen? ⟨P, 0, none⟩ = false
  g1 : wr.frozen? ⟨P, 1, none⟩ = false
  blk : ∀ k, setBlk (pairV p) k → P + 1 < k
  kept : Kept (fun _ => False) w wr
theorem OnInv.on {w a b : World} {P M : Nat} {p : Nat × Value} (h : OnInv w a P M p) (hk : Kept (fun _ => False) a b) : OnInv w b P M p := by
  have hP : P < a.heap.size := World.block_lt_of_cell? a _ h.r0
  exact ⟨h.box.kept hk (fun _ _ h => h), (hk.cell (p := ⟨P, 0, none⟩) hP (fun h => h)).trans h.r0, (hk.cell (p := ⟨P, 1, none⟩) hP (fun h => h)).trans h.r1, (hk.frozen (p := ⟨P, 0, none⟩) hP (fun h => h)).trans h.g0, (hk.frozen (p := ⟨P, 1, none⟩) hP (fun h => h)).trans h.g1, h.blk, h.kept.then hk⟩
theorem OnInv.put {w a : World} {P M N : Nat} {p q : Nat × Value} (h : OnInv w a P M p) (hw : w.heap.size ≤ P) (hq : SetV a (pairV q) N) (ha : ∀ k, setBlk (pairV q) k → P + 1 < k) :
    OnInv w ((a.setCell ⟨P + 1, 0, none⟩ (.int .u64 (q.1 : Int))).setCell ⟨P + 1, 1, none⟩ q.2) P N q := by
  have k2 : Kept (fun k => k = P + 1) a ((a.setCell ⟨P + 1, 0, none⟩ (.int .u64 (q.1 : Int))).setCell ⟨P + 1, 1, none⟩ q.2) := (Kept.setCell (fun k => k = P + 1) a ⟨P + 1, 0, none⟩ _ rfl).trans (Kept.setCell (fun k => k = P + 1) _ ⟨P + 1, 1, none⟩ _ rfl) (fun _ _ h => h) (fun _ _ h => h)
  have hP : P < a.heap.size := World.block_lt_of_cell? a _ h.r0
  have hn : ¬ P = P + 1 := by omega
  exact ⟨h.box.put hq (fun k hk => by have := ha k hk; omega), (k2.cell (p := ⟨P, 0, none⟩) hP hn).trans h.r0, (k2.cell (p := ⟨P, 1, none⟩) hP hn).trans h.r1, (k2.frozen (p := ⟨P, 0, none⟩) hP hn).trans h.g0, (k2.frozen (p := ⟨P, 1, none⟩) hP hn).trans h.g1, ha, h.kept.trans k2 (fun _ _ h => h) (fun k hk e => by have e : k = P + 1 := e; omega)⟩

set_option maxRecDepth 100000 in
set_option maxHeartbeats 3200000 in
theorem on_any (w : World) (v : Value) (M : Nat) (H : Nat → List Ent) (u d : Int) (h : BookV w v M H) (hM : M ≤ 100000) :
    Calls Tryd.prog 26 #[v, .int .i64 u, .int .i64 d] w fun e w' => ∃ v', e = .returned v' ∧ SetV w' v' (onM (rowOf H u) d) ∧ (∀ k, setBlk v' k → w.heap.size ≤ k) ∧ Kept (fun _ => False) w w' := by
  have h0 := h
  obtain ⟨bb, hv, rfl, hb, hr⟩ := h
  have hlen : (rowOf H u).length ≤ 1000000 := Nat.le_trans (rowOf_len hb u) (by omega)
  have HB := Lib.hid h0
  have HF := Lib.hid (rowOf_fit hr u)
  have HI0 : Hid (OnInv w ((w.alloc (.cells #[.int .u64 0, .slice none 0 0] 56)).alloc (.cells #[.int .u64 0, .slice none 0 0] 56)) w.heap.size 0 (0, .slice none 0 0)) := by
    have b := newS (w.alloc (.cells #[.int .u64 0, .slice none 0 0] 56))
    rw [show (w.alloc (.cells #[.int .u64 0, .slice none 0 0] 56)).heap.size = w.heap.size + 1 by simp] at b
    exact ⟨b, by go_simp, by go_simp, by go_simp, by go_simp, fun k ⟨lo, hv, e, hk⟩ => by
      simp [pairV] at e
      obtain ⟨-, rfl⟩ := e
      simp [Value.ownBlock] at hk, (Kept.alloc (fun _ => False) _ _).then (Kept.alloc _ _ _)⟩
  obtain ⟨a, c, hf, hc1, hc2⟩ := (row_ents hb u).form
  have HE := Lib.hid (row_ents hb u)
  have hHB : Hid (BookAt w bb M hv H) := Lib.hid hb
  rw [hf] at HE
  have HO : Hid (∀ W, Kept (fun _ => False) w W → Calls Tryd.prog 48 #[.pointer (some ⟨bb, 0, none⟩), .int .i64 u] W fun e w' => e = .returned (.slice a (rowOf H u).length c) ∧ W = w') := Lib.hid fun W kw => by
    have := mof_at W bb M hv H u (hHB.out.kept kw (fun h => h) (fun _ _ _ _ h => h))
    rwa [hf] at this
  clear h0 hb hr hf hHB HB
  generalize rowOf H u = l at *
  go_enter Tryd.func26, Tryd.ntmps26
  go_wp2_with (first
    | (go_at_call 48; refine (HO.out _ HI0.out.kept).mono ?_; rintro e W1 ⟨rfl, rfl⟩))
  generalize hw1 : (w.alloc (.cells #[.int .u64 0, .slice none 0 0] 56)).alloc (.cells #[.int .u64 0, .slice none 0 0] 56) = w1 at *
  obtain ⟨P, hP⟩ : ∃ P, P = w.heap.size := ⟨_, rfl⟩
  rw [← hP] at HI0 ⊢
  have hPw : w.heap.size ≤ P := by omega
  have HP := Lib.hid hP
  clear hw1 HO hP
  go_loopw [14] (fun iv wr => ∃ k : Nat, k ≤ l.length ∧ iv = .int .i64 (k : Int) ∧ Hid (∃ p, OnInv w wr P (onM (l.take k) d) p)) (fun iv _ => l.length - (intOf iv).toNat)
  case atStart => exact ⟨0, Nat.zero_le _, rfl, Lib.hid ⟨_, HI0.out⟩⟩
  case round =>
    obtain ⟨k, hk, rfl, hinv⟩ := hrel
    obtain ⟨⟨lo, hvv⟩, hinv⟩ := hinv.out
    obtain ⟨lo', sa, sn, sc, hform⟩ := hinv.box.set.form2
    obtain ⟨rfl, rfl⟩ : lo = lo' ∧ hvv = .slice sa sn sc := by
      simp [pairV] at hform
      exact ⟨by omega, hform.2⟩
    clear hform
    by_cases hlt : k < l.length
    · have l1 : (k : Int) < (l.length : Int) := by omega
      have l0 : (0 : Int) ≤ (k : Int) := by omega
      obtain ⟨g, off, rfl, hg, hc⟩ := (HE.out.kept hinv.kept (fun _ _ h => h)).at (k := k) hlt
      have HS := Lib.hid (onM_succ l d k hlt)
      have hfit := HF.out (l.getD k ent0) (by simp [List.getD, hlt])
      have HSm := Lib.hid (onM_small (l.take k) d (fun x hx => HF.out x (List.mem_of_mem_take hx)))
      generalize hx : l.getD k ent0 = x at hc HS hfit
      obtain ⟨xu, xr, xt⟩ := x
      obtain ⟨c0, c1, c2⟩ := hc
      simp only at c0 c1 c2 hfit
      have HIV := Lib.hid (hinv.on (Kept.alloc (fun _ => False) wr (.cells #[.int .i64 xu, .int .i64 xr, .int .i64 xt] 87)))
      obtain ⟨b0, b1, b2⟩ := box3c wr xu xr xt 87
      obtain ⟨rr, rfl⟩ : ∃ rr : Nat, xr = (rr : Int) := ⟨xr.toNat, by omega⟩
      obtain ⟨b, hb⟩ : ∃ b, b = actE xt d := ⟨_, rfl⟩
      have HC : Hid (∀ W, Calls Tryd.prog 57 #[.int .i64 xt, .int .i64 d] W fun e w' => e = .returned (.bool b) ∧ W = w') := Lib.hid fun W => by rw [hb]; exact active_any xt d W
      have HX := Lib.hid hx; have HBb := Lib.hid hb; have HFi := Lib.hid hfit
      clear hinv hx hb hfit
      go_wp2_with fail
      generalize hW2 : wr.alloc (.cells #[.int .i64 xu, .int .i64 (rr : Int), .int .i64 xt] 87) = W2 at *
      generalize wr.heap.size = Q at *
      clear hW2 c0 c1 c2 hg
      refine (HC.out _).mono ?_
      rintro e w3 ⟨rfl, rfl⟩
      have d0 := HIV.out.box.c0; have d1 := HIV.out.box.c1; have e0 := HIV.out.box.f0; have e1 := HIV.out.box.f1
      simp only at d0 d1
      cases b
      · have hs := HS.out
        rw [← HBb.out] at hs
        have hI2 : Hid (∃ p, OnInv w W2 P (onM (l.take (k + 1)) d) p) := Lib.hid ⟨_, by rw [hs]; exact HIV.out⟩
        clear hs
        go_wp2_with fail
        go_roundw
        case rel => first | exact ⟨k + 1, by omega, by go_num, hI2⟩ | ((repeat apply Exists.intro); exact ⟨⟨k + 1, by omega, by go_num, hI2⟩, rfl⟩)
        case measure => simp [intOf]; omega
      · have HWI := Lib.hid (with_any W2 _ _ rr HIV.out.box.set HSm.out (by have := HFi.out; omega))
        go_wp2_with (first | (go_at_call 58; refine HWI.out.mono ?_; rintro e w4 ⟨v4, rfl, hs4, hb4, k4⟩
                              obtain ⟨lo2, sa2, sn2, sc2, rfl⟩ := hs4.form2
                              have hv4 := HIV.out.on k4
                              have hput := hv4.put hPw (q := (lo2, .slice sa2 sn2 sc2)) hs4 (fun q hq => (hb4 q hq).elim (fun h => HIV.out.blk q h) (fun h => by have := HIV.out.box.lt; omega))
                              have HP4 := Lib.hid hput
                              have d4 := hv4.box.c0; have d5 := hv4.box.c1; have e4 := hv4.box.f0; have e5 := hv4.box.f1
                              simp only at d4 d5
                              clear hput hv4 hs4 hb4 d0 d1 e0 e1))
        have hs := HS.out
        rw [← HBb.out] at hs
        simp only [Int.toNat_natCast] at hs
        have hI2 : Hid (∃ p, OnInv w ((w4.setCell ⟨P + 1, 0, none⟩ (.int .u64 (lo2 : Int))).setCell ⟨P + 1, 1, none⟩ (.slice sa2 sn2 sc2)) P (onM (l.take (k + 1)) d) p) := Lib.hid ⟨_, by rw [hs]; exact HP4.out⟩
        clear hs
        go_roundw
        case rel => first | exact ⟨k + 1, by omega, by go_num, hI2⟩ | ((repeat apply Exists.intro); exact ⟨⟨k + 1, by omega, by go_num, hI2⟩, rfl⟩)
        case measure => simp [intOf]; omega
    · obtain rfl : k = l.length := by omega
      rw [List.take_length] at hinv
      have d0 := hinv.box.c0; have d1 := hinv.box.c1; have r0 := hinv.r0; have r1 := hinv.r1; have g0 := hinv.g0; have g1 := hinv.g1
      simp only at d0 d1
      have HI := Lib.hid hinv
      have k2 : Kept (fun k => k = P) wr ((wr.setCell ⟨P, 0, none⟩ (.int .u64 (lo : Int))).setCell ⟨P, 1, none⟩ (.slice sa sn sc)) := (Kept.setCell (fun k => k = P) wr ⟨P, 0, none⟩ _ rfl).trans (Kept.setCell (fun k => k = P) _ ⟨P, 1, none⟩ _ rfl) (fun _ _ h => h) (fun _ _ h => h)
      have K2 := Lib.hid k2
      have HPn : ¬ P + 1 = P := by omega
      clear hinv k2
      go_wp2_with fail
      refine bodyPost_ret (v := .agg #[.int .u64 (lo : Int), .slice sa sn sc]) (by simp [results, Tryd.results26, go_sem, r0, r1]) rfl ?_
      exact ⟨_, rfl, HI.out.box.set.keptB K2.out (fun q hq e => by have := HI.out.blk q hq; have e : q = P := e; omega), fun q hq => by have := HI.out.blk q hq; have := HP.out; omega, HI.out.kept.trans K2.out (fun _ _ h => h) (fun q hq e => by have e : q = P := e; omega)⟩
end Go.Proofs.YtccanbjnbmihgaaDoor
