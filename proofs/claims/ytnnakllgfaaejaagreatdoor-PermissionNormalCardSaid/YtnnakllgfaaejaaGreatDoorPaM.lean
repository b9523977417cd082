/-
  Paths: plain words on lists of bytes: pieces between strokes, names of paths, the names of a path, the path of names.
-/
import Derived.Lib.Split
import Derived.Lib.SplitLaws
import Derived.Lib.CutLaws
import Derived.Lib.LastIndexByte
namespace Go.Proofs.YtnnakllgfaaejaaGreatDoor

/-- The pieces between strokes (there is always one). -/
def cutL : List UInt8 → List (List UInt8)
  | [] => [[]]
  | c :: l => if c = 47 then [] :: cutL l else match cutL l with
    | [] => [[c]]
    | h :: t => (c :: h) :: t

theorem cutL_ne (l : List UInt8) : cutL l ≠ [] := by
  cases l with
  | nil => simp [cutL]
  | cons c l =>
    unfold cutL
    split
    · simp
    · split <;> simp
theorem cutL_stroke (l : List UInt8) : cutL (47 :: l) = [] :: cutL l := by simp [cutL]
theorem cutL_char {c : UInt8} (hc : c ≠ 47) (l h : List UInt8) (t : List (List UInt8)) (e : cutL l = h :: t) : cutL (c :: l) = (c :: h) :: t := by simp [cutL, hc, e]
theorem cutL_cons (l : List UInt8) : ∃ h t, cutL l = h :: t := by
  cases e : cutL l with
  | nil => exact absurd e (cutL_ne l)
  | cons h t => exact ⟨h, t, rfl⟩

/-- One more byte behind. -/
theorem cutL_snoc (c : UInt8) : ∀ l : List UInt8, ∃ o n, cutL l = o ++ [n] ∧ cutL (l ++ [c]) = if c = 47 then o ++ [n] ++ [[]] else o ++ [n ++ [c]]
  | [] => ⟨[], [], rfl, by
      by_cases h : c = 47
      · subst h; rfl
      · simp [cutL, h]⟩
  | b :: l => by
    obtain ⟨o, n, h1, h2⟩ := cutL_snoc c l
    by_cases hb : b = 47
    · subst hb
      refine ⟨[] :: o, n, by rw [cutL_stroke, h1]; rfl, ?_⟩
      rw [List.cons_append, cutL_stroke, h2]
      split <;> simp
    · cases o with
      | nil =>
        refine ⟨[], b :: n, by rw [cutL_char hb l n [] (by simpa using h1)]; rfl, ?_⟩
        rw [List.cons_append]
        by_cases h : c = 47
        · rw [if_pos h] at h2 ⊢
          rw [cutL_char hb _ n [[]] (by simpa using h2)]; rfl
        · rw [if_neg h] at h2 ⊢
          rw [cutL_char hb _ (n ++ [c]) [] (by simpa using h2)]; rfl
      | cons x o =>
        refine ⟨(b :: x) :: o, n, by rw [cutL_char hb l x (o ++ [n]) (by simpa using h1)]; rfl, ?_⟩
        rw [List.cons_append]
        by_cases h : c = 47
        · rw [if_pos h] at h2 ⊢
          rw [cutL_char hb _ x (o ++ [n] ++ [[]]) (by simpa using h2)]; simp
        · rw [if_neg h] at h2 ⊢
          rw [cutL_char hb _ x (o ++ [n ++ [c]]) (by simpa using h2)]; simp
theorem cutL_at {c : UInt8} {l n : List UInt8} {o : List (List UInt8)} (h : cutL l = o ++ [n]) : cutL (l ++ [c]) = if c = 47 then o ++ [n] ++ [[]] else o ++ [n ++ [c]] := by
  obtain ⟨o', n', h1, h2⟩ := cutL_snoc c l
  rw [h] at h1
  obtain ⟨rfl, h3⟩ := List.append_inj' h1 rfl
  injection h3 with h3
  subst h3
  exact h2

theorem cutL_free : ∀ l : List UInt8, 47 ∉ l → cutL l = [l]
  | [], _ => rfl
  | c :: l, h => by
    rw [cutL_char (fun e => h (by simp [e])) l l [] (cutL_free l (fun e => h (List.mem_cons_of_mem _ e)))]
theorem cutL_hit : ∀ (a r : List UInt8), 47 ∉ a → cutL (a ++ 47 :: r) = a :: cutL r
  | [], r, _ => cutL_stroke r
  | c :: a, r, h => by
    rw [List.cons_append, cutL_char (fun e => h (by simp [e])) _ a (cutL r) (cutL_hit a r (fun e => h (List.mem_cons_of_mem _ e)))]
theorem cutL_len : ∀ l : List UInt8, (cutL l).length ≤ l.length + 1
  | [] => by simp [cutL]
  | c :: l => by
    have ih := cutL_len l
    by_cases h : c = 47
    · subst h; rw [cutL_stroke]; simp only [List.length_cons]; omega
    · obtain ⟨x, t, e⟩ := cutL_cons l
      rw [cutL_char h l x t e]
      rw [e] at ih
      simp only [List.length_cons] at ih ⊢
      omega
/-- Put together again. -/
theorem cutL_join : ∀ l : List UInt8, (cutL l).flatMap (fun x => 47 :: x) = 47 :: l
  | [] => rfl
  | c :: l => by
    have ih := cutL_join l
    by_cases h : c = 47
    · subst h
      rw [cutL_stroke, List.flatMap_cons, ih]; rfl
    · obtain ⟨x, t, e⟩ := cutL_cons l
      rw [cutL_char h l x t e, List.flatMap_cons]
      rw [e, List.flatMap_cons] at ih
      have h2 : x ++ List.flatMap (fun x => 47 :: x) t = l := (List.cons.inj ih).2
      simp only [List.cons_append]
      rw [h2]

/-- Whether a byte may stand in a name of a path. -/
def okB (b : Nat) : Bool := (decide (97 ≤ b) && decide (b ≤ 122)) || (decide (48 ≤ b) && decide (b ≤ 57)) || decide (b = 95) || decide (b = 46) || decide (b = 45)
/-- Whether bytes are a name of a path. -/
def nameL (l : List UInt8) : Bool := decide (1 ≤ l.length) && decide (l.length ≤ 12) && l.all (fun b => okB b.toNat) && !(l == [46]) && !(l == [46, 46])
theorem nameL_free {l : List UInt8} (h : nameL l = true) : 47 ∉ l := by
  intro hm
  simp only [nameL, Bool.and_eq_true] at h
  have := List.all_eq_true.1 h.1.1.2 47 hm
  exact absurd this (by decide)
theorem nameL_ne {l : List UInt8} (h : nameL l = true) : l ≠ [] := by
  intro e; subst e; exact absurd h (by decide)
theorem nameL_len {l : List UInt8} (h : nameL l = true) : l.length ≤ 12 := by
  simp only [nameL, Bool.and_eq_true, decide_eq_true_iff] at h
  exact h.1.1.1.2

/-- The names of a path. -/
def namesL (l : List UInt8) : Option (List (List UInt8)) :=
  if l = [47] then some [] else match l with
    | [] => none
    | c :: r => if c = 47 ∧ (cutL r).length ≤ 8 ∧ (cutL r).all nameL = true then some (cutL r) else none
/-- The path of names. -/
def pathL : List (List UInt8) → List UInt8
  | [] => [47]
  | x :: t => (x :: t).flatMap (fun x => 47 :: x)
theorem pathL_cons {l : List (List UInt8)} (h : l ≠ []) : pathL l = l.flatMap (fun x => 47 :: x) := by
  cases l with
  | nil => exact absurd rfl h
  | cons x t => rfl

theorem cutL_names : ∀ (x : List UInt8) (t : List (List UInt8)), (x :: t).all nameL = true → cutL ((x :: t).flatMap (fun x => 47 :: x)).tail = x :: t
  | x, [], h => by
    have hx : nameL x = true := by simpa using h
    simp [cutL_free x (nameL_free hx)]
  | x, y :: t, h => by
    rw [List.all_cons, Bool.and_eq_true] at h
    have ih := cutL_names y t h.2
    rw [List.flatMap_cons]
    have e : ((y :: t).flatMap (fun x => 47 :: x)) = 47 :: ((y :: t).flatMap (fun x => 47 :: x)).tail := by rw [List.flatMap_cons]; rfl
    rw [e, List.cons_append, List.tail_cons, cutL_hit x _ (nameL_free h.1), ih]

theorem names_path {l : List (List UInt8)} (h : l.all nameL = true) (hl : l.length ≤ 8) : namesL (pathL l) = some l := by
  cases l with
  | nil => rfl
  | cons x t =>
    have hc := cutL_names x t h
    have hx : x ≠ [] := nameL_ne (by rw [List.all_cons, Bool.and_eq_true] at h; exact h.1)
    have e : pathL (x :: t) = 47 :: ((x :: t).flatMap (fun x => 47 :: x)).tail := by show (x :: t).flatMap _ = _; rw [List.flatMap_cons]; rfl
    rw [e]
    unfold namesL
    rw [if_neg]
    · show (if (47 : UInt8) = 47 ∧ (cutL ((x :: t).flatMap (fun x => 47 :: x)).tail).length ≤ 8 ∧ (cutL ((x :: t).flatMap (fun x => 47 :: x)).tail).all nameL = true then some (cutL ((x :: t).flatMap (fun x => 47 :: x)).tail) else none) = _
      rw [hc, if_pos ⟨rfl, hl, h⟩]
    · intro he
      injection he with _ he
      rw [he] at hc
      simp only [cutL] at hc
      injection hc with hc
      exact hx hc.symm

theorem path_names {s : List UInt8} {l : List (List UInt8)} (h : namesL s = some l) : s = pathL l ∧ l.all nameL = true ∧ l.length ≤ 8 := by
  unfold namesL at h
  split at h
  · next e => injection h with h; subst h; exact ⟨e, rfl, by simp⟩
  · next e =>
    cases s with
    | nil => cases h
    | cons c r =>
      simp only at h
      split at h
      · next hh =>
        obtain ⟨rfl, h2, h3⟩ := hh
        injection h with h
        subst h
        exact ⟨by rw [pathL_cons (cutL_ne r), cutL_join], h3, h2⟩
      · cases h
theorem pathL_inj {a b : List (List UInt8)} (ha : a.all nameL = true) (hb : b.all nameL = true) (la : a.length ≤ 8) (lb : b.length ≤ 8) (h : pathL a = pathL b) : a = b := by
  have h1 := names_path ha la
  rw [h, names_path hb lb] at h1
  injection h1 with h1
  exact h1.symm

/-- What strings.Split hands back at a stroke, as far as it went. -/
theorem index_stroke : ∀ l : List UInt8, (Lib.index l [47] = -1 ∧ 47 ∉ l) ∨ ∃ i : Nat, Lib.index l [47] = i ∧ i < l.length ∧ 47 ∉ l.take i ∧ l = l.take i ++ 47 :: l.drop (i + 1)
  | [] => Or.inl ⟨rfl, by simp⟩
  | b :: l => by
    by_cases h : b = 47
    · subst h
      refine Or.inr ⟨0, ?_, by simp, by simp, by simp⟩
      rw [Lib.index]
      simp [List.isPrefixOf]
    · have hp : ([47] : List UInt8).isPrefixOf (b :: l) = false := by simp [List.isPrefixOf, Ne.symm h]
      have hix : Lib.index (b :: l) [47] = if Lib.index l [47] == -1 then -1 else Lib.index l [47] + 1 := by rw [Lib.index, hp]; simp
      rcases index_stroke l with ⟨h1, h2⟩ | ⟨i, h1, h2, h3, h4⟩
      · exact Or.inl ⟨by rw [hix, h1]; rfl, by simp [Ne.symm h, h2]⟩
      · refine Or.inr ⟨i + 1, ?_, by simpa using h2, by simp [Ne.symm h, h3], by simpa using h4⟩
        rw [hix, h1, if_neg (by simp)]
        simp

theorem size_data (s : ByteArray) : s.size = s.data.toList.length := rfl
theorem extract_list (s : ByteArray) (i j : Nat) : (s.extract i j).data.toList = (s.data.toList.take j).drop i := by
  rw [ByteArray.data_extract, Array.toList_extract, List.extract_eq_take_drop, List.drop_take]

theorem split_stroke : ∀ (k : Nat) (s : ByteArray), ((cutL s.data.toList).length ≤ k + 1 → (Lib.splitB ⟨#[47]⟩ 0 k s).map (·.data.toList) = cutL s.data.toList) ∧ (k + 1 < (cutL s.data.toList).length → (Lib.splitB ⟨#[47]⟩ 0 k s).length = k + 1)
  | 0, s => by
    rw [Lib.splitB_zero]
    refine ⟨fun h => ?_, fun _ => rfl⟩
    rcases index_stroke s.data.toList with ⟨_, h2⟩ | ⟨i, _, h2, h3, h4⟩
    · rw [cutL_free _ h2]; rfl
    · exfalso
      rw [h4, cutL_hit _ _ h3] at h
      have := cutL_ne (List.drop (i + 1) s.data.toList)
      simp at h
      exact this h
  | k + 1, s => by
    rcases index_stroke s.data.toList with ⟨h1, h2⟩ | ⟨i, h1, h2, h3, h4⟩
    · rw [Lib.splitB_miss ⟨#[47]⟩ 0 (k + 1) s h1, cutL_free _ h2]
      exact ⟨fun _ => rfl, fun h => by simp at h⟩
    · rw [Lib.splitB_hit ⟨#[47]⟩ 0 k s i h1]
      have e1 : (s.extract 0 (i + 0)).data.toList = s.data.toList.take i := by rw [extract_list]; simp
      have e2 : (s.extract (i + (⟨#[47]⟩ : ByteArray).size) s.size).data.toList = s.data.toList.drop (i + 1) := by
        have e3 : List.take s.size s.data.toList = s.data.toList := List.take_of_length_le (Nat.le_refl _)
        rw [extract_list, e3]; rfl
      obtain ⟨ih1, ih2⟩ := split_stroke k (s.extract (i + (⟨#[47]⟩ : ByteArray).size) s.size)
      rw [e2] at ih1 ih2
      have hc : cutL s.data.toList = s.data.toList.take i :: cutL (s.data.toList.drop (i + 1)) := by
        have := cutL_hit (s.data.toList.take i) (s.data.toList.drop (i + 1)) h3
        rw [← h4] at this
        exact this
      rw [hc, List.length_cons]
      refine ⟨fun h => ?_, fun h => ?_⟩
      · rw [List.map_cons, e1, ih1 (by omega)]
      · rw [List.length_cons, ih2 (by omega)]

/-- A string of bytes. -/
def mkS (l : List UInt8) : ByteArray := ⟨l.toArray⟩
theorem mkS_list (l : List UInt8) : (mkS l).data.toList = l := by simp [mkS]
theorem mkS_data (s : ByteArray) : mkS s.data.toList = s := by simp [mkS]
theorem str_ext {a b : ByteArray} (h : a.data.toList = b.data.toList) : a = b := by rw [← mkS_data a, h, mkS_data]
/-- Whether a string is a name of a path; the names of a path; the path of names. -/
def nameS (s : ByteArray) : Bool := nameL s.data.toList
def namesS (s : ByteArray) : Option (List ByteArray) := (namesL s.data.toList).map (·.map mkS)
def pathS (l : List ByteArray) : ByteArray := mkS (pathL (l.map (·.data.toList)))
theorem map_mkS (l : List (List UInt8)) : (l.map mkS).map (·.data.toList) = l := by
  rw [List.map_map]
  conv => rhs; rw [← List.map_id l]
  exact List.map_congr_left fun x _ => mkS_list x
theorem map_data (l : List ByteArray) : (l.map (·.data.toList)).map mkS = l := by
  rw [List.map_map]
  conv => rhs; rw [← List.map_id l]
  exact List.map_congr_left fun x _ => mkS_data x
theorem all_names (l : List ByteArray) : (l.map (·.data.toList)).all nameL = l.all nameS := by rw [List.all_map]; rfl
theorem namesS_path {l : List ByteArray} (h : l.all nameS = true) (hl : l.length ≤ 8) : namesS (pathS l) = some l := by
  unfold namesS pathS
  rw [mkS_list, names_path (by rw [all_names]; exact h) (by simpa using hl)]
  show some ((l.map (·.data.toList)).map mkS) = some l
  rw [map_data]
theorem pathS_names {s : ByteArray} {l : List ByteArray} (h : namesS s = some l) : s = pathS l ∧ l.all nameS = true ∧ l.length ≤ 8 := by
  unfold namesS at h
  cases hn : namesL s.data.toList with
  | none => rw [hn] at h; cases h
  | some m =>
    rw [hn] at h
    obtain rfl : m.map mkS = l := by simpa using h
    obtain ⟨h1, h2, h3⟩ := path_names hn
    refine ⟨?_, ?_, by simpa using h3⟩
    · unfold pathS
      rw [map_mkS, ← h1, mkS_data]
    · rw [← all_names, map_mkS]; exact h2
theorem namesS_inj {a b : ByteArray} {l : List ByteArray} (h : namesS a = some l) (k : namesS b = some l) : a = b := by rw [(pathS_names h).1, (pathS_names k).1]

end Go.Proofs.YtnnakllgfaaejaaGreatDoor
