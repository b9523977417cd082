/-
  Tokens: rows of tokens in memory; the whole scan in plain words.
-/
import Derived.Test.YthkjcgcfbodgbaaDoorTkJ
import Derived.Deep.AppendLies
import Derived.Laws.OwnMore
namespace Go.Proofs.YthkjcgcfbodgbaaDoor
open Go.RowKit
set_option linter.unusedSimpArgs false
set_option linter.unusedVariables false

/-- A token: its kind, its text, its value, its place. -/
structure Tok where
  k : Nat
  t : ByteArray
  n : Int
  i : Int
def tok0 : Tok := ⟨0, ⟨#[]⟩, 0, 0⟩
def tkC (K : IntKind) (x : Tok) : List Value := [.int K (x.k : Int), .string x.t, .int .i64 x.n, .int .i64 x.i]
def tkV (K : IntKind) (x : Tok) : Value := .agg #[.int K (x.k : Int), .string x.t, .int .i64 x.n, .int .i64 x.i]
def flatK (K : IntKind) (l : List Tok) : List Value := l.flatMap (tkC K)
theorem flatK_append (K : IntKind) (a b : List Tok) : flatK K (a ++ b) = flatK K a ++ flatK K b := by simp [flatK]
theorem flatK_length (K : IntKind) (l : List Tok) : (flatK K l).length = l.length * 4 := by
  induction l with
  | nil => rfl
  | cons x t ih =>
    have : flatK K (x :: t) = tkC K x ++ flatK K t := rfl
    rw [this, List.length_append, ih]
    simp [tkC]; omega
theorem flatK_at (K : IntKind) (l : List Tok) : ∀ i, i < l.length → (flatK K l)[i * 4]? = some (.int K ((l.getD i tok0).k : Int)) ∧ (flatK K l)[i * 4 + 1]? = some (.string (l.getD i tok0).t) ∧ (flatK K l)[i * 4 + 2]? = some (.int .i64 (l.getD i tok0).n) ∧ (flatK K l)[i * 4 + 3]? = some (.int .i64 (l.getD i tok0).i) := by
  induction l with
  | nil => intro i hi; simp at hi
  | cons x t ih =>
    intro i hi
    have e : flatK K (x :: t) = .int K (x.k : Int) :: .string x.t :: .int .i64 x.n :: .int .i64 x.i :: flatK K t := rfl
    rw [e]
    cases i with
    | zero => exact ⟨rfl, rfl, rfl, rfl⟩
    | succ j =>
      have := ih j (by simpa using hi)
      rw [show (j + 1) * 4 = j * 4 + 1 + 1 + 1 + 1 by omega]
      exact this

/-- A token in memory. -/
structure TokAt (K : IntKind) (w : World) (g o : Nat) (x : Tok) : Prop where
  c0 : w.cell? ⟨g, o, none⟩ = some (.int K (x.k : Int))
  c1 : w.cell? ⟨g, o + 1, none⟩ = some (.string x.t)
  c2 : w.cell? ⟨g, o + 2, none⟩ = some (.int .i64 x.n)
  c3 : w.cell? ⟨g, o + 3, none⟩ = some (.int .i64 x.i)
theorem TokAt.kept {S : Nat → Prop} {K : IntKind} {a b : World} {g o : Nat} {x : Tok} (h : TokAt K a g o x) (hk : Kept S a b) (hS : ¬ S g) : TokAt K b g o x :=
  ⟨(hk.cell (World.block_lt_of_cell? a _ h.c0) hS).trans h.c0, (hk.cell (World.block_lt_of_cell? a _ h.c1) hS).trans h.c1, (hk.cell (World.block_lt_of_cell? a _ h.c2) hS).trans h.c2, (hk.cell (World.block_lt_of_cell? a _ h.c3) hS).trans h.c3⟩

/-- A value that reads as a row of tokens. -/
def Toks (K : IntKind) (w : World) (v : Value) (l : List Tok) : Prop :=
  (v = .slice none 0 0 ∧ l = []) ∨
  ∃ g off cap, v = .slice (some ⟨g, off, none⟩) l.length cap ∧ l.length ≤ cap ∧ cap ≤ maxLen ∧ g < w.heap.size ∧ ∀ i, i < l.length → TokAt K w g (off + i * 4) (l.getD i tok0)
theorem Toks.kept {S : Nat → Prop} {K : IntKind} {a b : World} {v : Value} {l : List Tok} (h : Toks K a v l) (hk : Kept S a b) (hn : ∀ k, v.ownBlock = some k → ¬ S k) : Toks K b v l := by
  rcases h with h | ⟨g, off, cap, rfl, h1, h2, h3, h4⟩
  · exact Or.inl h
  · exact Or.inr ⟨g, off, cap, rfl, h1, h2, Nat.lt_of_lt_of_le h3 hk.size, fun i hi => (h4 i hi).kept hk (hn g rfl)⟩
theorem Toks.form {K : IntKind} {w : World} {v : Value} {l : List Tok} (h : Toks K w v l) : ∃ a c, v = .slice a l.length c ∧ l.length ≤ c ∧ c ≤ maxLen := by
  rcases h with ⟨rfl, rfl⟩ | ⟨g, off, cap, rfl, h1, h2, _⟩
  · exact ⟨_, _, rfl, Nat.le_refl _, Nat.zero_le _⟩
  · exact ⟨_, _, rfl, h1, h2⟩
theorem Toks.at {K : IntKind} {w : World} {a : Option Addr} {n c k : Nat} {l : List Tok} (h : Toks K w (.slice a n c) l) (hk : k < l.length) :
    ∃ g off, a = some ⟨g, off, none⟩ ∧ g < w.heap.size ∧ TokAt K w g (off + k * 4) (l.getD k tok0) := by
  rcases h with ⟨_, rfl⟩ | ⟨g, off, cap, h, _, _, h3, h4⟩
  · simp at hk
  · cases h
    exact ⟨g, off, rfl, h3, h4 k hk⟩
/-- The first tokens of a row. -/
theorem Toks.cut {K : IntKind} {w : World} {a : Option Addr} {n c : Nat} {l : List Tok} (h : Toks K w (.slice a n c) l) (m : Nat) (hm : m ≤ l.length) : Toks K w (.slice a m c) (l.take m) := by
  rcases h with ⟨h, rfl⟩ | ⟨g, off, cap, h, h1, h2, h3, h4⟩
  · cases h
    have : m = 0 := by simpa using hm
    subst this
    exact Or.inl ⟨rfl, rfl⟩
  · cases h
    have e : (l.take m).length = m := by rw [List.length_take]; omega
    refine Or.inr ⟨g, off, c, by rw [e], by omega, h2, h3, fun i hi => ?_⟩
    have e2 : (l.take m).getD i tok0 = l.getD i tok0 := by
      rw [e] at hi
      simp [List.getD, List.getElem?_take_of_lt hi]
    rw [e2]
    exact h4 i (by omega)

/-- A row of tokens of the call's own. -/
def OwnK (K : IntKind) (T : TypeId) (B : Nat) (w : World) (v : Value) (l : List Tok) : Prop := w.ownsRow B T 4 v l.length (flatK K l)
theorem OwnK.nil (K : IntKind) (T : TypeId) (B : Nat) (w : World) : OwnK K T B w (.slice none 0 0) [] := World.ownsRow_nil _ _ _ _
theorem OwnK.kept {S : Nat → Prop} {K : IntKind} {T : TypeId} {B : Nat} {a b : World} {v : Value} {l : List Tok} (h : OwnK K T B a v l) (hk : Kept S a b) (hn : ∀ k, v.ownBlock = some k → ¬ S k) : OwnK K T B b v l :=
  hk.owns h hn
theorem OwnK.toks {K : IntKind} {T : TypeId} {B : Nat} {w : World} {v : Value} {l : List Tok} (h : OwnK K T B w v l) : Toks K w v l := by
  have h0 := h
  rcases h.2 with ⟨rfl, h2⟩ | ⟨g, cap, cur, rfl, hb, hg, h1, h2, _⟩
  · exact Or.inl ⟨rfl, List.eq_nil_of_length_eq_zero h2⟩
  · have hlt : g < w.heap.size := (h.lt g rfl).2
    refine Or.inr ⟨g, 0, cap, rfl, h1, h2, hlt, fun i hi => ?_⟩
    have ⟨a0, a1, a2, a3⟩ := flatK_at K l i hi
    unfold OwnK at h0
    rw [Nat.zero_add]
    exact ⟨(h0.cellAt (i * 4) (by omega)).trans a0, (h0.cellAt (i * 4 + 1) (by omega)).trans a1, (h0.cellAt (i * 4 + 2) (by omega)).trans a2, (h0.cellAt (i * 4 + 3) (by omega)).trans a3⟩
theorem OwnK.form {K : IntKind} {T : TypeId} {B : Nat} {w : World} {v : Value} {l : List Tok} (h : OwnK K T B w v l) : ∃ a c, v = .slice a l.length c ∧ l.length ≤ c ∧ c ≤ maxLen := h.toks.form
theorem OwnK.push {K : IntKind} {T : TypeId} {B : Nat} {w : World} {v : Value} {l : List Tok} {x : Tok} (h : w.ownsRow B T 4 v (l.length + 1) (flatK K l ++ tkC K x)) : OwnK K T B w v (l ++ [x]) := by
  unfold OwnK
  rw [flatK_append, List.length_append]
  have : flatK K [x] = tkC K x := by simp [flatK]
  rw [this]; exact h

/-! The whole scan. -/
theorem symN_le (l : List Nat) : symN l ≤ l.length := by
  unfold symN
  cases h : symL.find? fun x => x.isPrefixOf l with
  | none => simp
  | some x =>
    have := List.find?_some h
    rw [List.isPrefixOf_iff_prefix] at this
    exact this.length_le
theorem firstT_len (l : List Nat) (h : (firstT l).1 ≠ 0) : 0 < (firstT l).2.1 ∧ (firstT l).2.1 ≤ l.length := by
  cases l with
  | nil => exact absurd rfl h
  | cons c t =>
    unfold firstT at h ⊢
    simp only at h ⊢
    have hp : ∀ f : Nat → Bool, f c = true → 0 < ((c :: t).takeWhile f).length ∧ ((c :: t).takeWhile f).length ≤ (c :: t).length := fun f hf => by
      refine ⟨?_, (List.takeWhile_prefix _).length_le⟩
      simp [List.takeWhile, hf]
    cases hl : letB c with
    | true =>
      rw [if_pos rfl]
      exact hp inWordB (by simp [inWordB, hl])
    | false =>
      rw [hl] at h
      rw [if_neg (by decide)] at h ⊢
      cases hd : digB c with
      | true =>
        rw [hd] at h
        rw [if_pos rfl] at h ⊢
        split at h
        · exact absurd rfl h
        · rename_i hc
          rw [if_neg hc]
          exact hp digB hd
      | false =>
        rw [hd] at h
        rw [if_neg (by decide)] at h ⊢
        split at h
        · exact absurd rfl h
        · rename_i hc
          rw [if_neg hc]
          exact ⟨Nat.pos_of_ne_zero hc, symN_le _⟩
theorem firstT_val (l : List Nat) : (firstT l).2.2 < 1000000 := by
  cases l with
  | nil => decide
  | cons c t =>
    unfold firstT
    simp only
    split
    · show (0 : Nat) < 1000000
      decide
    · split
      · split
        · show (0 : Nat) < 1000000
          decide
        · rename_i hc
          have h6 : ((c :: t).takeWhile digB).length ≤ 6 := by omega
          have h := valN_lt ((c :: t).take ((c :: t).takeWhile digB).length) 0 takeWhile_dig
          have hl : ((c :: t).take ((c :: t).takeWhile digB).length).length ≤ 6 := by rw [List.length_take]; omega
          have hp : (10 : Nat) ^ ((c :: t).take ((c :: t).takeWhile digB).length).length ≤ 10 ^ 6 := Nat.pow_le_pow_right (by decide) hl
          have e : (10 : Nat) ^ 6 = 1000000 := by decide
          rw [e] at hp
          rw [Nat.zero_add, Nat.one_mul] at h
          exact Nat.lt_of_lt_of_le h hp
      · split <;> (show (0 : Nat) < 1000000; decide)

def tokOf (s : ByteArray) (x : Nat × Nat × Nat × Nat) : Tok := ⟨x.1, s.extract x.2.1 (x.2.1 + x.2.2.1), (x.2.2.2 : Nat), (x.2.1 : Nat)⟩
def endTok (s : ByteArray) : Tok := ⟨0, ⟨#[]⟩, 0, (s.size : Nat)⟩
def scanL (s : ByteArray) : List (Nat × Nat × Nat × Nat) × Option Nat := scanF (strB s) (s.size + 1) (skipT (strB s) 0)
/-- The tokens of a source, the place of the error, the error. -/
def scanS (s : ByteArray) : List Tok × Nat × Nat :=
  if 8000 < s.size then ([], 0, 3) else match (scanL s).2 with | some i => ([], i, 8) | none => ((scanL s).1.map (tokOf s) ++ [endTok s], 0, 0)
theorem scanS_long {s : ByteArray} (h : 8000 < s.size) : scanS s = ([], 0, 3) := if_pos h
theorem scanS_bad {s : ByteArray} {i : Nat} (h : ¬ 8000 < s.size) (h2 : (scanL s).2 = some i) : scanS s = ([], i, 8) := by
  unfold scanS; rw [if_neg h, h2]
theorem scanS_ok {s : ByteArray} (h : ¬ 8000 < s.size) (h2 : (scanL s).2 = none) : scanS s = ((scanL s).1.map (tokOf s) ++ [endTok s], 0, 0) := by
  unfold scanS; rw [if_neg h, h2]

/-- The token at a place. -/
def nowT (s : ByteArray) (i : Nat) : Nat × Nat × Nat := firstT ((strB s).drop i)
/-- Where a loop over a source stands: the tokens before, and those to come. -/
def ScanAt (s : ByteArray) (ts : List Tok) (i : Nat) : Prop :=
  ∃ f, s.size - i < f ∧ (scanL s).1.map (tokOf s) = ts ++ (scanF (strB s) f i).1.map (tokOf s) ∧ (scanL s).2 = (scanF (strB s) f i).2
theorem ScanAt.start (s : ByteArray) : ScanAt s [] (skipT (strB s) 0) := ⟨s.size + 1, by omega, by simp [scanL], rfl⟩
theorem ScanAt.bad {s : ByteArray} {ts : List Tok} {i : Nat} (h : ScanAt s ts i) (hi : i < s.size) (h0 : (nowT s i).1 = 0) : (scanL s).2 = some i := by
  obtain ⟨f, hf, _, h2⟩ := h
  obtain ⟨g, rfl⟩ : ∃ g, f = g + 1 := ⟨f - 1, by omega⟩
  unfold nowT at h0
  rw [h2, scanF, if_pos (by rw [strB_len]; exact hi), if_pos h0]
theorem ScanAt.next {s : ByteArray} {ts : List Tok} {i : Nat} (h : ScanAt s ts i) (hi : i < s.size) (h0 : (nowT s i).1 ≠ 0) :
    ScanAt s (ts ++ [tokOf s ((nowT s i).1, i, (nowT s i).2.1, (nowT s i).2.2)]) (skipT (strB s) (i + (nowT s i).2.1)) := by
  obtain ⟨f, hf, h1, h2⟩ := h
  obtain ⟨g, rfl⟩ : ∃ g, f = g + 1 := ⟨f - 1, by omega⟩
  have hl := firstT_len _ h0
  rw [List.length_drop, strB_len] at hl
  have hs := skipT_le (strB s) (i + (nowT s i).2.1) (by rw [strB_len]; unfold nowT; omega)
  refine ⟨g, by have := hl.1; unfold nowT at hs ⊢; omega, ?_, ?_⟩
  all_goals unfold nowT at h0 ⊢
  · rw [h1, scanF, if_pos (by rw [strB_len]; exact hi), if_neg h0]
    simp
  · rw [h2, scanF, if_pos (by rw [strB_len]; exact hi), if_neg h0]
theorem ScanAt.done {s : ByteArray} {ts : List Tok} {i : Nat} (h : ScanAt s ts i) (hi : ¬ i < s.size) : (scanL s).1.map (tokOf s) = ts ∧ (scanL s).2 = none := by
  obtain ⟨f, hf, h1, h2⟩ := h
  obtain ⟨g, rfl⟩ : ∃ g, f = g + 1 := ⟨f - 1, by omega⟩
  rw [scanF, if_neg (by rw [strB_len]; exact hi)] at h1 h2
  exact ⟨by simpa using h1, h2⟩

/-! The reference's three ways. -/
theorem bat_drop (s : ByteArray) (i j : Nat) : ((strB s).drop i).getD j 0 = bat s (i + j) := by
  rw [← strB_at]
  simp [List.getD, List.getElem?_drop]
theorem nowT_eq {s : ByteArray} {i : Nat} (hi : i < s.size) : nowT s i = if letB (bat s i) = true then (1, (((strB s).drop i).takeWhile inWordB).length, 0)
    else if digB (bat s i) = true then
      (if 6 < (((strB s).drop i).takeWhile digB).length ∨ (bat s i = 48 ∧ 1 < (((strB s).drop i).takeWhile digB).length) ∨ ((((strB s).drop i).takeWhile digB).length < s.size - i ∧ inWordB (bat s (i + (((strB s).drop i).takeWhile digB).length)) = true) then (0, 0, 0) else (2, (((strB s).drop i).takeWhile digB).length, valN (((strB s).drop i).take (((strB s).drop i).takeWhile digB).length)))
    else if symN ((strB s).drop i) = 0 then (0, 0, 0) else (3, symN ((strB s).drop i), 0) := by
  have h1 : (s.extract i s.size).size = s.size - i := by rw [ByteArray.size_extract]; omega
  have h := firstT_cons (s := s.extract i s.size) (by omega)
  have hb : ∀ j, bat (s.extract i s.size) j = bat s (i + j) := fun j => by
    rw [← strB_at, strB_ext, bat_drop]
  rw [strB_ext] at h
  simp only [hb, h1, Nat.add_zero] at h
  exact h
theorem tw_stop {f : Nat → Bool} : ∀ (l : List Nat), (l.takeWhile f).length < l.length → f (l.getD (l.takeWhile f).length 0) = false
  | [], h => by simp at h
  | c :: t, h => by
    cases hc : f c with
    | true =>
      simp only [List.takeWhile, hc, List.length_cons] at h ⊢
      exact tw_stop t (by omega)
    | false => simp [List.takeWhile, hc]
theorem nowT_letter {s : ByteArray} {i : Nat} (hi : i < s.size) (hl : letB (bat s i) = true) : nowT s i = (1, (((strB s).drop i).takeWhile inWordB).length, 0) := by
  rw [nowT_eq hi, if_pos hl]
theorem nowT_digit {s : ByteArray} {i : Nat} (hi : i < s.size) (hl : letB (bat s i) = false) (hd : digB (bat s i) = true) :
    (numR s i (i + (((strB s).drop i).takeWhile digB).length) = 0 ∧ nowT s i = (0, 0, 0)) ∨
    (numR s i (i + (((strB s).drop i).takeWhile digB).length) = i + (((strB s).drop i).takeWhile digB).length ∧ nowT s i = (2, (((strB s).drop i).takeWhile digB).length, valN (((strB s).drop i).take (((strB s).drop i).takeWhile digB).length)) ∧ 0 < (((strB s).drop i).takeWhile digB).length ∧ (((strB s).drop i).takeWhile digB).length ≤ 6) := by
  have hst := tw_stop (f := digB) ((strB s).drop i)
  rw [bat_drop, List.length_drop, strB_len] at hst
  have hle : (((strB s).drop i).takeWhile digB).length ≤ s.size - i := by
    have := (List.takeWhile_prefix (p := digB) (l := (strB s).drop i)).length_le
    rw [List.length_drop, strB_len] at this; exact this
  have hpos : 0 < (((strB s).drop i).takeWhile digB).length := by
    have h0 : ((strB s).drop i).getD 0 0 = bat s i := by rw [bat_drop, Nat.add_zero]
    have hlen : 0 < ((strB s).drop i).length := by rw [List.length_drop, strB_len]; omega
    cases hq : (strB s).drop i with
    | nil => rw [hq] at hlen; simp at hlen
    | cons a t =>
      rw [hq] at h0
      have : a = bat s i := by simpa using h0
      simp [List.takeWhile, this, hd]
  rw [nowT_eq hi, if_neg (by rw [hl]; decide), if_pos hd]
  generalize (((strB s).drop i).takeWhile digB).length = N at hst hle hpos ⊢
  unfold numR
  rw [show i + N - i = N by omega]
  by_cases h1 : 6 < N ∨ (1 < N ∧ bat s i = 48)
  · left
    rw [if_pos h1, if_pos (by rcases h1 with h | ⟨h, h2⟩; exact Or.inl h; exact Or.inr (Or.inl ⟨h2, h⟩))]
    exact ⟨rfl, rfl⟩
  · rw [if_neg h1]
    by_cases h2 : i + N < s.size ∧ (letB (bat s (i + N)) = true ∨ bat s (i + N) = 95)
    · left
      rw [if_pos h2, if_pos (Or.inr (Or.inr ⟨by omega, by
        unfold inWordB
        rcases h2.2 with h | h
        · rw [h]; rfl
        · rw [h]; simp⟩))]
      exact ⟨rfl, rfl⟩
    · right
      rw [if_neg h2, if_neg]
      · exact ⟨rfl, rfl, hpos, by omega⟩
      · rintro (h | ⟨h, h3⟩ | ⟨h, h3⟩)
        · exact h1 (Or.inl h)
        · exact h1 (Or.inr ⟨h3, h⟩)
        · have hd2 := hst h
          unfold inWordB at h3
          rw [hd2] at h3
          refine h2 ⟨by omega, ?_⟩
          cases hlb : letB (bat s (i + N)) with
          | true => exact Or.inl rfl
          | false =>
            rw [hlb] at h3
            right
            simpa using h3
theorem nowT_sym {s : ByteArray} {i : Nat} (hi : i < s.size) (hl : letB (bat s i) = false) (hd : digB (bat s i) = false) :
    (symR s i = 0 ∧ nowT s i = (0, 0, 0)) ∨ (symR s i = i + symN ((strB s).drop i) ∧ symN ((strB s).drop i) ≠ 0 ∧ nowT s i = (3, symN ((strB s).drop i), 0)) := by
  rw [nowT_eq hi, if_neg (by rw [hl]; decide), if_neg (by rw [hd]; decide)]
  unfold symR
  by_cases h : symN ((strB s).drop i) = 0
  · left; rw [if_pos h, if_pos h]; exact ⟨rfl, rfl⟩
  · right; rw [if_neg h, if_neg h]; exact ⟨rfl, h, rfl⟩
end Go.Proofs.YthkjcgcfbodgbaaDoor
