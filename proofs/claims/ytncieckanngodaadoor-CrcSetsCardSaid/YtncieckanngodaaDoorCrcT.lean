/-
  Frames at the beginning of bytes: the payloads, how many bytes they take; frames one behind the other, cut off somewhere. Plain mathematics.
-/
import Derived.Test.YtncieckanngodaaDoorCrcM
namespace Go.Proofs.YtncieckanngodaaDoor

/-- The payloads of the frames at the beginning. -/
def payS : Nat → List Nat → List (List Nat)
  | 0, _ => []
  | n + 1, b => if nextS b = 0 then [] else (b.drop 8).take (de4 b) :: payS n (b.drop (nextS b))
def pays (b : List Nat) : List (List Nat) := payS b.length b
def lens (b : List Nat) : List Nat := scanS b.length b

theorem payS_fuel : ∀ (m n : Nat) (b : List Nat), b.length ≤ m → b.length ≤ n → payS m b = payS n b := by
  intro m
  induction m with
  | zero =>
    intro n b h1 _
    have hb : b = [] := List.eq_nil_of_length_eq_zero (by omega)
    subst hb
    cases n <;> rfl
  | succ m ih =>
    intro n b h1 h2
    by_cases h : nextS b = 0
    · cases n with
      | zero => simp [payS, h]
      | succ n => rw [payS, payS, if_pos h, if_pos h]
    · have h8 := nextS_8 b h
      have hle := nextS_le b
      cases n with
      | zero => omega
      | succ n => rw [payS, payS, if_neg h, if_neg h, ih n _ (by simp; omega) (by simp; omega)]

theorem scanS_fuel : ∀ (m n : Nat) (b : List Nat), b.length ≤ m → b.length ≤ n → scanS m b = scanS n b := by
  intro m
  induction m with
  | zero =>
    intro n b h1 _
    have hb : b = [] := List.eq_nil_of_length_eq_zero (by omega)
    subst hb
    cases n <;> rfl
  | succ m ih =>
    intro n b h1 h2
    by_cases h : nextS b = 0
    · cases n with
      | zero => simp [scanS, h]
      | succ n => rw [scanS, scanS, if_pos h, if_pos h]
    · have h8 := nextS_8 b h
      have hle := nextS_le b
      cases n with
      | zero => omega
      | succ n => rw [scanS, scanS, if_neg h, if_neg h, ih n _ (by simp; omega) (by simp; omega)]

theorem pays_none {b : List Nat} (h : nextS b = 0) : pays b = [] := by
  unfold pays
  cases b.length with
  | zero => rfl
  | succ n => rw [payS, if_pos h]
theorem lens_none {b : List Nat} (h : nextS b = 0) : lens b = [] := by
  unfold lens
  cases b.length with
  | zero => rfl
  | succ n => rw [scanS, if_pos h]
theorem pays_some {b : List Nat} (h : nextS b ≠ 0) : pays b = (b.drop 8).take (de4 b) :: pays (b.drop (nextS b)) := by
  have h8 := nextS_8 b h
  have hle := nextS_le b
  unfold pays
  rw [payS_fuel b.length (b.length - 1 + 1) b (Nat.le_refl _) (by omega), payS, if_neg h, payS_fuel _ (b.drop (nextS b)).length _ (by simp; omega) (Nat.le_refl _)]
theorem lens_some {b : List Nat} (h : nextS b ≠ 0) : lens b = nextS b :: lens (b.drop (nextS b)) := by
  have h8 := nextS_8 b h
  have hle := nextS_le b
  unfold lens
  rw [scanS_fuel b.length (b.length - 1 + 1) b (Nat.le_refl _) (by omega), scanS, if_neg h, scanS_fuel _ (b.drop (nextS b)).length _ (by simp; omega) (Nat.le_refl _)]

/-- Behind some frames. -/
theorem pays_lens (n : Nat) : ∀ b : List Nat, b.length ≤ n → (pays b).length = (lens b).length ∧ (lens b).sum ≤ b.length ∧
    ∀ i, i < (lens b).length → 8 ≤ (lens b).getD i 0 ∧ ((lens b).take i).sum + (lens b).getD i 0 ≤ b.length ∧
      (pays b).getD i [] = (b.drop (((lens b).take i).sum + 8)).take ((lens b).getD i 0 - 8) := by
  induction n with
  | zero =>
    intro b hb
    have hb : b = [] := List.eq_nil_of_length_eq_zero (by omega)
    subst hb
    exact ⟨rfl, by decide, fun i hi => by simp [lens, scanS] at hi⟩
  | succ n ih =>
    intro b hb
    by_cases h : nextS b = 0
    · rw [pays_none h, lens_none h]
      exact ⟨rfl, by simp, fun i hi => by simp at hi⟩
    · have h8 := nextS_8 b h
      have hle := nextS_le b
      obtain ⟨e1, e2, e3⟩ := ih (b.drop (nextS b)) (by simp; omega)
      rw [pays_some h, lens_some h]
      refine ⟨by simp [e1], by simp at e2 ⊢; omega, fun i hi => ?_⟩
      cases i with
      | zero => simp; exact ⟨by omega, by omega, by rw [h8.2]; congr 1; omega⟩
      | succ i =>
        obtain ⟨f1, f2, f3⟩ := e3 i (by simpa using hi)
        simp only [List.getD_cons_succ, List.take_succ_cons, List.sum_cons] at f1 f2 f3 ⊢
        rw [List.length_drop] at f2
        refine ⟨f1, by omega, ?_⟩
        rw [f3, List.drop_drop]; congr 2

/-- Frames, one behind the other. -/
def frs (ps : List (List Nat)) : List Nat := ps.flatMap frameS
theorem frs_cons (p : List Nat) (ps : List (List Nat)) : frs (p :: ps) = frameS p ++ frs ps := rfl
theorem frs_nil : frs [] = [] := rfl
theorem frs_append (ps qs : List (List Nat)) : frs (ps ++ qs) = frs ps ++ frs qs := by unfold frs; rw [List.flatMap_append]
theorem frs_snoc (ps : List (List Nat)) (p : List Nat) : frs (ps ++ [p]) = frs ps ++ frameS p := by rw [frs_append, frs_cons, frs_nil, List.append_nil]
theorem frs_byte {ps : List (List Nat)} (h : ∀ p ∈ ps, ∀ x ∈ p, x < 256) : ∀ x ∈ frs ps, x < 256 := by
  intro x hx
  unfold frs at hx
  obtain ⟨p, hp, hx⟩ := List.mem_flatMap.1 hx
  exact frameS_byte (h p hp) x hx

/-- How many of them lie within the first k bytes. -/
def cnt : Nat → List (List Nat) → Nat
  | _, [] => 0
  | k, p :: ps => if 8 + p.length ≤ k then cnt (k - (8 + p.length)) ps + 1 else 0
theorem cnt_le (k : Nat) (ps : List (List Nat)) : cnt k ps ≤ ps.length := by
  induction ps generalizing k with
  | nil => simp [cnt]
  | cons p ps ih =>
    rw [cnt]
    split
    · have := ih (k - (8 + p.length)); simp; omega
    · omega

theorem frame_head {p : List Nat} (hl : p.length ≤ 9000) (t : List Nat) : de4 (frameS p ++ t) = p.length ∧ ((frameS p ++ t).drop 8).take p.length = p := by
  refine ⟨by rw [frameS, List.append_assoc, de4_le4 (by omega)], ?_⟩
  rw [frameS, ← List.append_assoc, List.append_assoc, List.drop_append_of_le_length (by simp [le4])]
  rw [show (le4 p.length ++ le4 (crcU (crcS (le4 p.length)) p)).drop 8 = [] from rfl, List.nil_append, List.take_left']
  rfl

theorem frs_cut (ps : List (List Nat)) (hb : ∀ p ∈ ps, ∀ x ∈ p, x < 256) (hl : ∀ p ∈ ps, p.length ≤ 9000) (k : Nat) (hk : k ≤ (frs ps).length) :
    pays ((frs ps).take k) = ps.take (cnt k ps) ∧ (lens ((frs ps).take k)).sum = (frs (ps.take (cnt k ps))).length := by
  induction ps generalizing k with
  | nil =>
    have : (frs []).take k = [] := by simp [frs_nil]
    rw [this]
    exact ⟨rfl, rfl⟩
  | cons p ps ih =>
    have hfl := frameS_length p
    have hpl := hl p (by simp)
    have hpb := hb p (by simp)
    rw [frs_cons] at hk ⊢
    rw [cnt]
    by_cases h : 8 + p.length ≤ k
    · rw [if_pos h]
      have ht : (frameS p ++ frs ps).take k = frameS p ++ (frs ps).take (k - (8 + p.length)) := by rw [List.take_append, List.take_of_length_le (by omega), hfl]
      obtain ⟨e1, e2⟩ := ih (fun q hq => hb q (by simp [hq])) (fun q hq => hl q (by simp [hq])) (k - (8 + p.length)) (by simp [hfl] at hk; omega)
      rw [ht]
      have hn := nextS_frame hpb hpl ((frs ps).take (k - (8 + p.length)))
      obtain ⟨d1, d2⟩ := frame_head hpl ((frs ps).take (k - (8 + p.length)))
      have hdr : (frameS p ++ (frs ps).take (k - (8 + p.length))).drop (8 + p.length) = (frs ps).take (k - (8 + p.length)) := by rw [← hfl, List.drop_left]
      rw [pays_some (by omega), lens_some (by omega), hn, d1, d2, hdr, e1, List.take_succ_cons, List.sum_cons, e2, frs_cons, List.length_append, hfl]
      exact ⟨rfl, rfl⟩
    · rw [if_neg h]
      have ht : (frameS p ++ frs ps).take k = (frameS p).take k := by rw [List.take_append_of_le_length (by omega)]
      rw [ht, pays_none (nextS_cut hpl (by omega)), lens_none (nextS_cut hpl (by omega))]
      exact ⟨rfl, rfl⟩

theorem frs_end (ps : List (List Nat)) (k i : Nat) (hi : i < ps.length) : (frs (ps.take (i + 1))).length ≤ k ↔ i < cnt k ps := by
  induction ps generalizing k i with
  | nil => simp at hi
  | cons p ps ih =>
    have hfl := frameS_length p
    rw [List.take_succ_cons, frs_cons, List.length_append, hfl, cnt]
    cases i with
    | zero =>
      rw [List.take_zero, frs_nil]
      split
      · simp; omega
      · simp; omega
    | succ i =>
      have := ih (k - (8 + p.length)) i (by simpa using hi)
      split
      · omega
      · omega

/-- The frame at the beginning, as the reference looks for it. -/
theorem nextS_ref {b : List Nat} (hb : ∀ x ∈ b, x < 256) (h8 : 8 ≤ b.length) (h1 : de4 b ≤ 9000) (h2 : 8 + de4 b ≤ b.length) :
    nextS b = if frameS ((b.drop 8).take (de4 b)) = b.take (8 + de4 b) then 8 + de4 b else 0 := by
  by_cases h : nextS b = 0
  · rw [if_neg, h]
    intro e
    have hlen : ((b.drop 8).take (de4 b)).length = de4 b := by simp; omega
    have hn := nextS_frame (p := (b.drop 8).take (de4 b)) (fun x hx => hb x (List.mem_of_mem_drop (List.mem_of_mem_take hx))) (by omega) (b.drop (8 + de4 b))
    rw [e, List.take_append_drop, hlen] at hn
    omega
  · have e := nextS_is hb h
    rw [(nextS_8 b h).2] at e ⊢
    rw [if_pos e.symm]
theorem nextS_long {b : List Nat} (h : b.length < 8 + de4 b) : nextS b = 0 := by
  unfold nextS
  split
  · rfl
  · rw [if_pos (by omega)]
theorem nextS_great {b : List Nat} (h : 9000 < de4 b) : nextS b = 0 := by
  unfold nextS
  split
  · rfl
  · rw [if_pos (by omega)]
end Go.Proofs.YtncieckanngodaaDoor
