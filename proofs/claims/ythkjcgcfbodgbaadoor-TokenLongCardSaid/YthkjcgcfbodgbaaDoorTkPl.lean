/-
  Tokens: arbaclaw15.plain, slices.Equal of tokens; rows of tokens that are written into.
-/
import Derived.Test.YthkjcgcfbodgbaaDoorTkY
namespace Go.Proofs.YthkjcgcfbodgbaaDoor
open Go.RowKit Go.Shelf
set_option linter.unusedSimpArgs false
set_option linter.unusedVariables false

theorem TokAt.other {K : IntKind} {w : World} {g o : Nat} {x : Tok} {a : Addr} {u : Value} (h : TokAt K w g o x) (hne : ∀ j, j < 4 → a ≠ ⟨g, o + j, none⟩) : TokAt K (w.setCell a u) g o x :=
  ⟨(World.cell?_setCell_other _ _ _ _ (hne 0 (by omega))).trans h.c0, (World.cell?_setCell_other _ _ _ _ (hne 1 (by omega))).trans h.c1, (World.cell?_setCell_other _ _ _ _ (hne 2 (by omega))).trans h.c2, (World.cell?_setCell_other _ _ _ _ (hne 3 (by omega))).trans h.c3⟩
/-- A row of tokens of the call's own, element by element. -/
def RowF (K : IntKind) (w : World) (B : Nat) (v : Value) (N : Nat) (F : Nat → Tok) : Prop :=
  (v = .slice none 0 0 ∧ N = 0) ∨
  ∃ g cap, v = .slice (some ⟨g, 0, none⟩) N cap ∧ N ≤ cap ∧ cap ≤ maxLen ∧ B ≤ g ∧ g < w.heap.size ∧ (∀ i, i < N → TokAt K w g (i * 4) (F i)) ∧ ∀ j, w.frozen? ⟨g, j, none⟩ = false
theorem OwnK.rowF {K : IntKind} {T : TypeId} {B : Nat} {w : World} {v : Value} {l : List Tok} (h : OwnK K T B w v l) : RowF K w B v l.length (fun i => l.getD i tok0) := by
  have h0 := h.toks
  rcases h.2 with ⟨rfl, h2⟩ | ⟨g, cap, cur, rfl, hb, hg, h1, h2, _⟩
  · exact Or.inl ⟨rfl, h2⟩
  · refine Or.inr ⟨g, cap, rfl, h1, h2, hb, (h.lt g rfl).2, fun i hi => ?_, fun j => frozen_of_row w g j cur T hg⟩
    obtain ⟨g', off, e, _, ht⟩ := h0.at hi
    cases e
    rw [Nat.zero_add] at ht
    exact ht
theorem RowF.form {K : IntKind} {w : World} {B : Nat} {v : Value} {N : Nat} {F : Nat → Tok} (h : RowF K w B v N F) : ∃ a c, v = .slice a N c ∧ N ≤ c ∧ c ≤ maxLen := by
  rcases h with ⟨rfl, rfl⟩ | ⟨g, cap, rfl, h1, h2, _⟩
  · exact ⟨_, _, rfl, Nat.le_refl _, Nat.zero_le _⟩
  · exact ⟨_, _, rfl, h1, h2⟩
theorem RowF.at {K : IntKind} {w : World} {B : Nat} {a : Option Addr} {n c : Nat} {N : Nat} {F : Nat → Tok} (h : RowF K w B (.slice a n c) N F) {k : Nat} (hk : k < N) :
    ∃ g, a = some ⟨g, 0, none⟩ ∧ B ≤ g ∧ g < w.heap.size ∧ TokAt K w g (k * 4) (F k) ∧ ∀ j, w.frozen? ⟨g, j, none⟩ = false := by
  rcases h with ⟨_, rfl⟩ | ⟨g, cap, e, h1, h2, h3, h4, h5, h6⟩
  · omega
  · cases e
    exact ⟨g, rfl, h3, h4, h5 k hk, h6⟩
theorem RowF.toks {K : IntKind} {w : World} {B : Nat} {v : Value} {l : List Tok} {F : Nat → Tok} (h : RowF K w B v l.length F) (hl : ∀ i, i < l.length → l.getD i tok0 = F i) : Toks K w v l := by
  rcases h with ⟨rfl, h2⟩ | ⟨g, cap, rfl, h1, h2, h3, h4, h5, h6⟩
  · exact Or.inl ⟨rfl, List.eq_nil_of_length_eq_zero h2⟩
  · refine Or.inr ⟨g, 0, cap, rfl, h1, h2, h4, fun i hi => ?_⟩
    rw [Nat.zero_add, hl i hi]
    exact h5 i hi
theorem RowF.far {K : IntKind} {w : World} {B : Nat} {v : Value} {N : Nat} {F : Nat → Tok} (h : RowF K w B v N F) : ∀ k, v.ownBlock = some k → B ≤ k := fun k hk => by
  rcases h with ⟨rfl, _⟩ | ⟨g, cap, rfl, _, _, h3, _⟩
  · cases hk
  · cases hk; exact h3
theorem RowF.kept {S : Nat → Prop} {K : IntKind} {a b : World} {B : Nat} {v : Value} {N : Nat} {F : Nat → Tok} (h : RowF K a B v N F) (hk : Kept S a b) (hn : ∀ k, v.ownBlock = some k → ¬ S k) : RowF K b B v N F := by
  rcases h with h | ⟨g, cap, rfl, h1, h2, h3, h4, h5, h6⟩
  · exact Or.inl h
  · exact Or.inr ⟨g, cap, rfl, h1, h2, h3, Nat.lt_of_lt_of_le h4 hk.size, fun i hi => (h5 i hi).kept hk (hn g rfl), fun j => (hk.frozen (p := ⟨g, j, none⟩) h4 (hn g rfl)).trans (h6 j)⟩
/-- A place is written. -/
theorem RowF.setI {K : IntKind} {w : World} {B g n c : Nat} {N : Nat} {F G : Nat → Tok} (h : RowF K w B (.slice (some ⟨g, 0, none⟩) n c) N F) {k : Nat} (hk : k < N) (z : Int) (hG : ∀ i, i < N → G i = if i = k then ⟨(F k).k, (F k).t, (F k).n, z⟩ else F i) :
    RowF K (w.setCell ⟨g, k * 4 + 3, none⟩ (.int .i64 z)) B (.slice (some ⟨g, 0, none⟩) n c) N G := by
  rcases h with ⟨e, _⟩ | ⟨g', cap, e, h1, h2, h3, h4, h5, h6⟩
  · cases e
  · cases e
    refine Or.inr ⟨g, c, rfl, h1, h2, h3, by simpa using h4, fun i hi => ?_, fun j => by rw [World.frozen?_setCell]; exact h6 j⟩
    rw [hG i hi]
    by_cases e : i = k
    · rw [if_pos e, e]
      obtain ⟨c0, c1, c2, c3⟩ := h5 k hk
      exact ⟨(World.cell?_setCell_other _ _ _ _ (by intro e2; injection e2 with _ e3; omega)).trans c0, (World.cell?_setCell_other _ _ _ _ (by intro e2; injection e2 with _ e3; omega)).trans c1, (World.cell?_setCell_other _ _ _ _ (by intro e2; injection e2 with _ e3; omega)).trans c2, World.cell?_setCell_same _ _ _ c3⟩
    · rw [if_neg e]
      exact (h5 i hi).other (fun j hj e2 => by injection e2 with _ e3; omega)
theorem RowF.setT {K : IntKind} {w : World} {B g n c : Nat} {N : Nat} {F G : Nat → Tok} (h : RowF K w B (.slice (some ⟨g, 0, none⟩) n c) N F) {k : Nat} (hk : k < N) (z : ByteArray) (hG : ∀ i, i < N → G i = if i = k then ⟨(F k).k, z, (F k).n, (F k).i⟩ else F i) :
    RowF K (w.setCell ⟨g, k * 4 + 1, none⟩ (.string z)) B (.slice (some ⟨g, 0, none⟩) n c) N G := by
  rcases h with ⟨e, _⟩ | ⟨g', cap, e, h1, h2, h3, h4, h5, h6⟩
  · cases e
  · cases e
    refine Or.inr ⟨g, c, rfl, h1, h2, h3, by simpa using h4, fun i hi => ?_, fun j => by rw [World.frozen?_setCell]; exact h6 j⟩
    rw [hG i hi]
    by_cases e : i = k
    · rw [if_pos e, e]
      obtain ⟨c0, c1, c2, c3⟩ := h5 k hk
      exact ⟨(World.cell?_setCell_other _ _ _ _ (by intro e2; injection e2 with _ e3; omega)).trans c0, World.cell?_setCell_same _ _ _ c1, (World.cell?_setCell_other _ _ _ _ (by intro e2; injection e2 with _ e3; omega)).trans c2, (World.cell?_setCell_other _ _ _ _ (by intro e2; injection e2 with _ e3; omega)).trans c3⟩
    · rw [if_neg e]
      exact (h5 i hi).other (fun j hj e2 => by injection e2 with _ e3; omega)

/-- A token without its place. -/
def zT (x : Tok) : Tok := ⟨x.k, x.t, x.n, 0⟩
theorem getD_zT (l : List Tok) (i : Nat) (hi : i < l.length) : (l.map zT).getD i tok0 = zT (l.getD i tok0) := by simp [List.getD, hi]

set_option maxRecDepth 100000 in
set_option maxHeartbeats 1600000 in
theorem plain_any (v : Value) (l : List Tok) (w : World) (h : Toks .u8 w v l) (hl : l.length ≤ 1000000) :
    Calls Tryd.prog 14 #[v] w fun e w' => ∃ v', e = .returned v' ∧ Toks .u8 w' v' (l.map zT) ∧ Kept (fun _ => False) w w' := by
  obtain ⟨a, c, rfl, _, _⟩ := h.form
  have HC := Lib.hid (tclone_any _ l w h hl)
  have HZ := Lib.hid (getD_zT l)
  obtain ⟨N, hN⟩ : ∃ N, N = l.length := ⟨_, rfl⟩
  have HN := Lib.hid hN
  rw [← hN] at hl
  clear h hN
  go_enter Tryd.func14, Tryd.ntmps14
  go_wp2_with fail
  refine HC.out.mono ?_
  rintro e w1 ⟨v1, rfl, o1, k1⟩
  have hr := o1.rowF
  rw [← HN.out] at hr
  have HR : Hid (RowF .u8 w1 w.heap.size v1 N (fun i => if i < 0 then zT (l.getD i tok0) else l.getD i tok0)) := by
    have : (fun i => if i < 0 then zT (l.getD i tok0) else l.getD i tok0) = fun i => l.getD i tok0 := by
      funext i; exact if_neg (Nat.not_lt_zero i)
    rw [this]; exact hr
  have K1 := Lib.hid k1
  obtain ⟨a1, c1, rfl, z1, z2⟩ := hr.form
  clear o1 k1 hr HC
  go_wp2_with fail
  go_loopw [8] (fun iv wr => ∃ k : Nat, k ≤ N ∧ iv = .int .i64 k ∧ Hid (RowF .u8 wr w.heap.size (.slice a1 N c1) N (fun i => if i < k then zT (l.getD i tok0) else l.getD i tok0) ∧ Kept (fun _ => False) w wr)) (fun iv _ => N - (intOf iv).toNat)
  case atStart => exact ⟨0, by omega, rfl, HR.out, K1.out⟩
  case round =>
    obtain ⟨k, hk, rfl, hrk⟩ := hrel
    have l0 : (0 : Int) ≤ (k : Int) := by omega
    by_cases hlt : k < N
    · have l1 : (k : Int) < (N : Int) := by omega
      obtain ⟨g, rfl, hB, hg, ht, hf⟩ := hrk.out.1.at hlt
      have hset : Hid (RowF .u8 (wr.setCell ⟨g, k * 4 + 3, none⟩ (.int .i64 0)) w.heap.size (.slice (some ⟨g, 0, none⟩) N c1) N (fun i => if i < k + 1 then zT (l.getD i tok0) else l.getD i tok0) ∧ Kept (fun _ => False) w (wr.setCell ⟨g, k * 4 + 3, none⟩ (.int .i64 0))) := by
        refine ⟨hrk.out.1.setI hlt 0 (fun i hi => ?_), hrk.out.2.trans (Kept.setCell (fun i => i = g) wr ⟨g, k * 4 + 3, none⟩ _ rfl) (fun _ _ h => h) (fun i hi e => by have e : i = g := e; omega)⟩
        by_cases e : i = k
        · subst e
          simp only [if_pos (Nat.lt_succ_self i), if_true, if_neg (Nat.lt_irrefl i)]
          rfl
        · rw [if_neg e]
          by_cases e2 : i < k
          · rw [if_pos (by omega), if_pos e2]
          · rw [if_neg (by omega), if_neg e2]
      obtain ⟨c0, c1', c2, c3⟩ := ht
      have f3 := hf (k * 4 + 3)
      clear hrk hf c0 c1' c2
      go_wp2_with fail
      go_roundw
      case rel => first | exact ⟨k + 1, by omega, by go_num, hset⟩ | ((repeat apply Exists.intro); exact ⟨⟨k + 1, by omega, by go_num, hset⟩, rfl⟩)
      case measure => simp [intOf]; omega
    · obtain rfl : k = N := by omega
      have HE : Hid (Toks .u8 wr (.slice a1 k c1) (l.map zT) ∧ Kept (fun _ => False) w wr) := by
        refine ⟨?_, hrk.out.2⟩
        have hlm : (l.map zT).length = k := by rw [List.length_map, HN.out]
        have h1 := hrk.out.1
        rw [← hlm] at h1 ⊢
        refine h1.toks (fun i hi => ?_)
        rw [hlm] at hi
        simp only [hlm, if_pos hi]
        exact HZ.out i (by rw [← HN.out]; exact hi)
      clear hrk
      go_wp2_with fail
      go_ret
      exact ⟨_, rfl, HE.out⟩

set_option maxRecDepth 100000 in
set_option maxHeartbeats 1600000 in
theorem teq_any (a b : Value) (l : List Tok) (w : World) (ha : Toks .u8 w a l) (hb : Toks .u8 w b l) :
    Calls Tryd.prog 13 #[a, b] w fun e w' => e = .returned (.bool true) ∧ Kept (fun _ => False) w w' := by
  obtain ⟨aa, ac, rfl, z1, z2⟩ := ha.form
  obtain ⟨ba, bc, rfl, _, _⟩ := hb.form
  unfold maxLen at z2
  have HA := Lib.hid ha; have HB := Lib.hid hb
  obtain ⟨N, hN⟩ : ∃ N, N = l.length := ⟨_, rfl⟩
  rw [← hN] at HA HB z1 ⊢
  have HN := Lib.hid hN
  clear ha hb hN
  go_enter Tryd.func13, Tryd.ntmps13
  go_wp2_with fail
  go_loopw [13] (fun iv wr => ∃ k : Nat, k ≤ N ∧ iv = .int .i64 k ∧ Hid (Kept (fun _ => False) w wr)) (fun iv _ => N - (intOf iv).toNat)
  case atStart => exact ⟨0, by omega, rfl, Kept.refl _ _⟩
  case round =>
    obtain ⟨k, hk, rfl, hkw⟩ := hrel
    have l0 : (0 : Int) ≤ (k : Int) := by omega
    by_cases hlt : k < N
    · have l1 : (k : Int) < (N : Int) := by omega
      obtain ⟨g, off, rfl, hgl, c0, c1, c2, c3⟩ := (HA.out.kept hkw.out (fun _ _ h => h)).at (k := k) (by have := HN.out; omega)
      obtain ⟨h, off2, rfl, hhl, d0, d1, d2, d3⟩ := (HB.out.kept hkw.out (fun _ _ h => h)).at (k := k) (by have := HN.out; omega)
      generalize l.getD k tok0 = x at c0 c1 c2 c3 d0 d1 d2 d3
      obtain ⟨kk, t, n, i⟩ := x
      simp only at c0 c1 c2 c3 d0 d1 d2 d3
      have HK := Lib.hid (fun n => hkw.out.drewN n)
      go_wp2_with fail
      go_quiet (fail)
      have HE := Lib.hid (HK.out nq)
      clear c0 c1 c2 c3 d0 d1 d2 d3 HK
      generalize wr.drewN nq = wd at *
      go_wp2_with fail
      go_roundw
      case rel => first | exact ⟨k + 1, by omega, by go_num, HE⟩ | ((repeat apply Exists.intro); exact ⟨⟨k + 1, by omega, by go_num, HE⟩, rfl⟩)
      case measure => simp [intOf]; omega
    · have l1 : ¬ (k : Int) < (N : Int) := by omega
      go_wp2_with fail
      go_ret
      exact ⟨rfl, hkw.out⟩
end Go.Proofs.YthkjcgcfbodgbaaDoor
