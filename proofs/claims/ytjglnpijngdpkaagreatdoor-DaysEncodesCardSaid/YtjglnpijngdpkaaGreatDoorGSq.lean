import Derived.Test.YtjglnpijngdpkaaGreatDoorCore
import Derived.RangeFuncNested
import Derived.RangeFuncLeaves
/-
  A range over an iterator that writes a cell of its own between two rounds (strings.SplitSeq: what is left of the text).
-/
namespace Go.Proofs.YtjglnpijngdpkaaGreatDoor
open Go.RowKit
set_option linter.unusedVariables false

/-- The two blocks of a loop: its record, and what its rounds have deferred. -/
structure Bk (l : Nat) (o : Loop) (W : World) : Prop where
  lo : W.heap[l + 1]? = some (.loop o)
  df : W.heap[l]? = some (.deferred (some []))
theorem Bk.put {l : Nat} {o : Loop} {A : World} (h : Bk l o A) (o' : Loop) : Bk l o' (A.putObj (l + 1) (.loop o')) :=
  ⟨World.putObj_heap_same (Array.getElem?_eq_some_iff.1 h.lo).1, (World.putObj_heap_other (by omega)).trans h.df⟩
theorem Bk.kept {l : Nat} {o : Loop} {A B : World} (h : Bk l o A) (hk : Kept (fun _ => False) A B) : Bk l o B :=
  ⟨(hk.block _ (Array.getElem?_eq_some_iff.1 h.lo).1 (fun h => h)).trans h.lo, (hk.block _ (Array.getElem?_eq_some_iff.1 h.df).1 (fun h => h)).trans h.df⟩
theorem Bk.cell {l B : Nat} {o : Loop} {A : World} (h : Bk l o A) (hB : B < l) (v : Value) : Bk l o (A.setCell ⟨B, 0, none⟩ v) := by
  have h1 : ¬ B = l + 1 := by omega
  have h2 : ¬ B = l := by omega
  obtain ⟨a, b⟩ := h
  constructor
  · simpa [World.setCell, Array.getElem?_modify, h1] using a
  · simpa [World.setCell, Array.getElem?_modify, h2] using b
theorem Bk.from {l : Nat} {o : Loop} {A B : World} (h : Bk l o A) (hk : KeepsFrom l A B) : Bk l o B :=
  ⟨hk.same _ _ (by omega) h.lo rfl, hk.same _ _ (Nat.le_refl _) h.df rfl⟩

/-- What an iterator with a cell B of its own promises. -/
def SeqStopsC {α : Type} (n : Nat) (P : Program) (g : Nat) (lb : Array Value) (encs : α → Array Value) (B : Nat) (Kp : World → World → Prop) (S Sp : List α → Prop) (N : Nat) (w : World) : Prop :=
  ∀ (l : Nat) (J Jx : List α → World → Prop) (W : World), Below w.heap.size w W → (∀ pre A A', W.heap.size ≤ A.heap.size → J pre A → Kept (fun _ => False) A A' → J pre A') → (∀ pre A v, J pre A → J pre (A.setCell ⟨B, 0, none⟩ v)) →
    (∀ pre x A, J pre A → pre.length < N → YieldAt Fence.wide (n - 1) P l (encs x) A fun e A' => (e = .returned (.bool true) ∧ J (pre ++ [x]) A' ∧ Kp A A') ∨ (e = .returned (.bool false) ∧ Jx (pre ++ [x]) A')) →
    J [] W → CallsIn Fence.wide n P g (#[.func (.yield l) #[] #[]] ++ lb) W fun e W' => (∃ v, e = .returned v) ∧ ((∃ xs, S xs ∧ J xs W') ∨ (∃ pre, Sp pre ∧ Jx pre W'))

/-- How a round ends. -/
theorem round_end {P : Program} {d : Nat} {o : Loop} {W : World} (jump : Option Code) (h : Bk d o W) :
    (Instr.endRound (d + 1) jump).run P W = .ok (.bool jump.isNone) (W.putObj (d + 1) (.loop { o with state := if jump.isNone then .ready else .done, pending := jump })) ∧
    Bk d { o with state := if jump.isNone then .ready else .done, pending := jump } (W.putObj (d + 1) (.loop { o with state := if jump.isNone then .ready else .done, pending := jump })) :=
  ⟨run_endRound jump h.lo, h.put _⟩

theorem wpIn_rangeFunc_ownC {α : Type} {n : Nat} {P : Program} {g : Operand} {ps : Array Tmp} {assign body : Code} {Q : Exit → Act → World → Prop} {a : Act} {w : World}
    (h1 : 1 ≤ n) {gf : Nat} {lb : Array Value} (hg : a.eval g = .func (.func gf) #[] lb) (eg : ∀ args w, (callFunc gf args).run P w = .ok (.enter gf args) w)
    {encs : α → Array Value} {B : Nat} {Kp : World → World → Prop} {S Sp : List α → Prop} {N : Nat} {w0 : World} (hB : B < w.heap.size) (hseq : SeqStopsC (n - 1) P gf lb encs B Kp S Sp N w0)
    (hKt : ∀ {A B C : World}, Kp A B → Kp B C → Kp A C) (hKb : ∀ (W : World) (l : Nat) (o o' : Obj), w.heap.size ≤ l → W.heap[l]? = some o → o.isCells = false → o.isWalk = false → Kp W (W.putObj l o')) (hb0 : Below w0.heap.size w0 w) (hps : ∀ x, (encs x).size = ps.size)
    (I : List α → World → Prop) (Ix : Code → List α → World → Prop) (hI : OwnFrom w.heap.size I) (hIc : ∀ pre A v, I pre A → I pre (A.setCell ⟨B, 0, none⟩ v)) (hIx : ∀ c, OwnFrom w.heap.size (Ix c)) (h0 : I [] w) (a₁ : α → Act)
    (hassign : ∀ (l : Nat) (x : α) (W : World) (K : Act → World → Prop), K (a₁ x) W →
      assign.wpIn (Fence.wide.inRound l) (n - 1 - 1) P (Exit.then K (fun _ _ _ => False)) { tmps := (ps.zip (encs x)).foldl (fun t (p, v) => t.setIfInBounds p v) a.tmps, defers := [] } W)
    (hbody : ∀ (l : Nat) (pre : List α) (x : α) (W : World), I pre W → pre.length < N → body.wpIn (Fence.wide.inRound l) (n - 1 - 1) P (ownPostG w.heap.size Kp I Ix (pre ++ [x]) W) (a₁ x) W)
    (hdone : ∀ (D : Nat) (xs : List α) (W : World), w.heap.size ≤ D → S xs → I xs W → W.heap[D]? = some (.deferred (some [])) → Q .normal { a with defers := { target := .collected D, args := #[] } :: a.defers } W)
    (hstop : ∀ (D : Nat) (c : Code) (pre : List α) (W : World), w.heap.size ≤ D → Sp pre → Ix c pre W → W.heap[D]? = some (.deferred (some [])) → c.wpIn Fence.wide n P Q { a with defers := { target := .collected D, args := #[] } :: a.defers } W) :
    (Code.rangeFunc g ps assign body).wpIn Fence.wide n P Q a w := by
  refine wpIn_rangeFunc fun fn hfn => ?_
  obtain ⟨o, ho⟩ : ∃ o : Loop, o = { state := .ready, pending := none, fn, tmps := a.tmps, params := ps, assign, body, defers := w.heap.size } := ⟨_, rfl⟩
  have hs : o.state = .ready := by rw [ho]
  have hend : ∀ (jump : Option Code) (X : World), Bk w.heap.size { o with state := .busy } X → (Instr.endRound (w.heap.size + 1) jump).run P X = .ok (.bool jump.isNone) (X.putObj (w.heap.size + 1) (.loop { o with state := if jump.isNone then .ready else .done, pending := jump })) ∧
      Bk w.heap.size { o with state := if jump.isNone then .ready else .done, pending := jump } (X.putObj (w.heap.size + 1) (.loop { o with state := if jump.isNone then .ready else .done, pending := jump })) :=
    fun jump X h => round_end (o := { o with state := .busy }) jump h
  have hbk : Bk w.heap.size o ((w.alloc (.deferred (some []))).alloc (.loop o)) := by
    constructor
    · have h2 := World.alloc_heap_new (w.alloc (.deferred (some []))) (.loop o)
      rwa [World.size_alloc] at h2
    · exact (Below.heap_alloc _ _ _ (by simp)).trans (World.alloc_heap_new w _)
  have hpre : I [] ((w.alloc (.deferred (some []))).alloc (.loop o)) := hI.alloc _ (hI.alloc _ h0)
  have hbel : Below w0.heap.size w0 ((w.alloc (.deferred (some []))).alloc (.loop o)) := hb0.trans ((((Below.refl _ w).alloc (Nat.le_refl _) _).alloc (by simp) _).mono hb0.size)
  refine ⟨w.heap.size + 1, [{ target := .collected w.heap.size, args := #[] }], (w.alloc (.deferred (some []))).alloc (.loop o), { target := .fn (.func gf) lb, args := #[.func (.yield (w.heap.size + 1)) #[] #[]] }, (w.alloc (.deferred (some []))).alloc (.loop o), gf,
    #[.func (.yield (w.heap.size + 1)) #[] #[]] ++ lb, (w.alloc (.deferred (some []))).alloc (.loop o), by rw [ho]; exact run_enterLoop_outer fn a.tmps ps assign body, ?_, fun f' _ => trivial, ?_, fun _ => h1, ?_⟩
  · simp only [resolve, hg]
    simp [go_sem]
  · simp [invoke, go_sem, eg]
  generalize (w.alloc (.deferred (some []))).alloc (.loop o) = Wb at *
  refine (hseq (w.heap.size + 1) (fun pre W => I pre W ∧ Bk w.heap.size o W) (fun pre W => ∃ c, Ix c pre W ∧ Bk w.heap.size { o with state := .done, pending := some c } W) Wb hbel
    (fun pre A A' _ h hk => ⟨hI pre A A' none h.1 ⟨hk.os, hk.tape, hk.output, hk.size, fun k hk' _ => hk.block k hk' (fun h => h)⟩ (fun r e => by cases e), h.2.kept hk⟩)
    (fun pre A v h => ⟨hIc pre A v h.1, h.2.cell hB v⟩) ?_ ⟨hpre, hbk⟩).mono ?_
  · rintro pre x A ⟨hi, hk⟩ hlen
    have hy := run_yield (P := P) (args := encs x) hk.lo (by rw [ho]; exact hps x)
    have eo : o.fn = fn ∧ o.assign = assign ∧ o.body = body ∧ o.tmps = a.tmps ∧ o.params = ps := by rw [ho]; exact ⟨rfl, rfl, rfl, rfl, rfl⟩
    obtain ⟨e1, e2, e3, e4, e5⟩ := eo
    rw [e1, e2, e3, e4, e5] at hy
    have hput : ∀ (X : World) (q : Loop) (o' : Obj), Bk w.heap.size q X → Kp X (X.putObj (w.heap.size + 1) o') := fun X q o' h => hKb X _ _ o' (by omega) h.lo rfl rfl
    have hown : ∀ (X : World) (q : Loop) (o' : Obj) (s : List α), Bk w.heap.size q X → I s X → I s (X.putObj (w.heap.size + 1) o') := fun X q o' s h hi => hI.putObj o' hi (by omega) h.lo rfl
    have hownx : ∀ (X : World) (q : Loop) (o' : Obj) (s : List α) (c : Code), Bk w.heap.size q X → Ix c s X → Ix c s (X.putObj (w.heap.size + 1) o') := fun X q o' s c h hi => (hIx c).putObj o' hi (by omega) h.lo rfl
    refine ⟨fn, _, assign, body, hy, roundIn_of_wpIn hfn (hassign _ x A _ ⟨_, run_beginRound hk.lo hs, ?_⟩)⟩
    have hkb := hk.put { o with state := .busy }
    have hk0 := hput A o (.loop { o with state := .busy }) hk
    have hi0 := hown A o (.loop { o with state := .busy }) pre hk hi
    generalize A.putObj (w.heap.size + 1) (.loop { o with state := .busy }) = A0 at *
    refine wpIn_mono (hbody _ pre x A0 hi0 hlen) fun e a3 X hp => ?_
    have hready : ({ o with state := .ready, pending := none } : Loop) = o := by rw [ho]
    have hleft : ∀ c : Code, KeepsFrom w.heap.size A0 X → Ix c (pre ++ [x]) X → ∃ v W', (Instr.endRound (w.heap.size + 1) (some c)).run P X = .ok v W' ∧ (v = .bool false ∧ ∃ c, Ix c (pre ++ [x]) W' ∧ Bk w.heap.size { o with state := .done, pending := some c } W') := fun c hk3 hi3 => by
      have hb3 := hkb.from hk3
      obtain ⟨q1, q2⟩ := hend (some c) X hb3
      exact ⟨_, _, q1, rfl, c, hownx X _ _ _ c hb3 hi3, q2⟩
    cases e with
    | normal =>
      obtain ⟨hk3, hp3, hi3⟩ := hp
      have hb3 := hkb.from hk3
      obtain ⟨q1, q2⟩ := hend none X hb3
      refine ⟨_, _, q1, .inl ⟨rfl, ⟨hown X _ _ _ hb3 hi3, ?_⟩, hKt (hKt hk0 hp3) (hput X _ _ hb3)⟩⟩
      have q3 := q2
      simp only [Option.isNone_none, if_true] at q3 ⊢
      rw [hready] at q3 ⊢
      exact q3
    | ret =>
      obtain ⟨hk3, hi3⟩ := hp
      obtain ⟨v, W', q1, rfl, q2⟩ := hleft .ret hk3 hi3
      exact ⟨_, _, q1, .inr ⟨rfl, q2⟩⟩
    | exit id =>
      obtain ⟨hk3, hi3⟩ := hp
      obtain ⟨v, W', q1, rfl, q2⟩ := hleft (.exit id) hk3 hi3
      exact ⟨_, _, q1, .inr ⟨rfl, q2⟩⟩
    | goto t =>
      obtain ⟨hk3, hi3⟩ := hp
      obtain ⟨v, W', q1, rfl, q2⟩ := hleft (.goto t) hk3 hi3
      exact ⟨_, _, q1, .inr ⟨rfl, q2⟩⟩
    | panic ch => exact hp.elim
    | outgrown => exact hp.elim
  · rintro e X ⟨⟨v, rfl⟩, h⟩
    rcases h with ⟨xs, hS, hi, hk⟩ | ⟨pre, hSp, c, hi, hk⟩
    · have hr := run_endLoop (P := P) hk.lo (by rw [hs]; simp)
      have e6 : o.pending = none := by rw [ho]
      rw [e6] at hr
      have hk2 := hk.put { o with state := .exhausted }
      rw [e6] at hk2
      exact ⟨none, _, hr, hdone _ xs _ (Nat.le_refl _) hS (hI.putObj _ hi (by omega) hk.lo rfl) hk2.df⟩
    · have hr := run_endLoop (P := P) hk.lo (by simp)
      exact ⟨some c, _, hr, hstop _ c pre _ (Nat.le_refl _) hSp ((hIx c).putObj _ hi (by omega) hk.lo rfl) (hk.put _).df⟩
end Go.Proofs.YtjglnpijngdpkaaGreatDoor
