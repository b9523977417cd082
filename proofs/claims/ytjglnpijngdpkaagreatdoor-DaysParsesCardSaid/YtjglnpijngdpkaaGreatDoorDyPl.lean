/-
  Plain words on reading the texts of sets of days. No program is named here.
-/
import Derived.Test.YtjglnpijngdpkaaGreatDoorDyT
import Derived.Lib.AtoiTie
import Derived.Lib.IndexLaws
namespace Go.Proofs.YtjglnpijngdpkaaGreatDoor
set_option linter.unusedSimpArgs false
set_option linter.unusedVariables false

theorem digit_valD : ∀ n : Fin 10, Lib.digitVal (UInt8.ofNat (48 + n.val)) = some n.val := by decide
theorem decFrom_decD : ∀ (d n : Nat), n ≤ d → Lib.decFrom 0 (Lib.decDigits n) = some n := by
  intro d
  induction d with
  | zero =>
    intro n h
    obtain rfl : n = 0 := by omega
    rw [Lib.decDigits_one (by omega)]
    exact Lib.decFrom_take [UInt8.ofNat 48] 0 0 0 _ 0 rfl rfl (digit_valD ⟨0, by omega⟩)
  | succ d ih =>
    intro n h
    by_cases h10 : n < 10
    · rw [Lib.decDigits_one h10]
      have := Lib.decFrom_take [UInt8.ofNat (48 + n)] 0 0 0 _ n rfl rfl (digit_valD ⟨n, h10⟩)
      simpa using this
    · have h1 := ih (n / 10) (by omega)
      rw [Lib.decDigits, dif_neg h10]
      have := Lib.decFrom_take (Lib.decDigits (n / 10) ++ [UInt8.ofNat (48 + n % 10)]) (Lib.decDigits (n / 10)).length 0 (n / 10) (UInt8.ofNat (48 + n % 10)) (n % 10) (by rw [List.take_left]; exact h1) (by simp) (digit_valD ⟨n % 10, by omega⟩)
      rw [List.take_of_length_le (by simp)] at this
      rw [this]
      congr 1; omega
theorem dec_memD : ∀ (d n : Nat), n ≤ d → ∀ b ∈ Lib.decDigits n, ∃ k, k < 10 ∧ b = UInt8.ofNat (48 + k) := by
  intro d
  induction d with
  | zero =>
    intro n h b hb
    obtain rfl : n = 0 := by omega
    rw [Lib.decDigits_one (by omega)] at hb
    exact ⟨0, by omega, by simpa using hb⟩
  | succ d ih =>
    intro n h b hb
    by_cases h10 : n < 10
    · rw [Lib.decDigits_one h10] at hb
      exact ⟨n, h10, by simpa using hb⟩
    · rw [Lib.decDigits, dif_neg h10] at hb
      rcases List.mem_append.1 hb with hb | hb
      · exact ih (n / 10) (by omega) b hb
      · exact ⟨n % 10, by omega, by simpa using hb⟩
theorem dec_byteD (n : Nat) : ∀ b ∈ Lib.decDigits n, 48 ≤ b.toNat ∧ b.toNat ≤ 57 ∧ b ≠ 44 ∧ b ≠ 45 ∧ b ≠ 43 := by
  intro b hb
  obtain ⟨k, hk, rfl⟩ := dec_memD n n (Nat.le_refl _) b hb
  have : ∀ k : Fin 10, 48 ≤ (UInt8.ofNat (48 + k.val)).toNat ∧ (UInt8.ofNat (48 + k.val)).toNat ≤ 57 ∧ UInt8.ofNat (48 + k.val) ≠ 44 ∧ UInt8.ofNat (48 + k.val) ≠ 45 ∧ UInt8.ofNat (48 + k.val) ≠ 43 := by decide
  exact this ⟨k, hk⟩
theorem dec_neD (n : Nat) : Lib.decDigits n ≠ [] := by
  intro e
  have : 1 ≤ (Lib.decDigits n).length := by rw [Lib.decDigits]; split <;> simp
  rw [e] at this; simp at this
theorem itoa_byteD {n : Int} (h : 0 ≤ n) : ∀ b ∈ Lib.itoa n, 48 ≤ b.toNat ∧ b.toNat ≤ 57 ∧ b ≠ 44 ∧ b ≠ 45 ∧ b ≠ 43 := by
  obtain ⟨m, rfl⟩ : ∃ m : Nat, n = (m : Int) := ⟨n.toNat, by omega⟩
  rw [Lib.itoa_nonneg]
  exact dec_byteD m
theorem atoi_itoaD {n : Int} (h : 0 ≤ n) (h2 : n ≤ 30001) : Lib.atoiAll (Lib.itoa n) = .ok n := by
  have hl := itoa_len5 n h h2
  obtain ⟨m, rfl⟩ : ∃ m : Nat, n = (m : Int) := ⟨n.toNat, by omega⟩
  rw [Lib.itoa_nonneg] at hl ⊢
  rw [Lib.atoiAll_short _ (by omega)]
  have hd := decFrom_decD m m (Nat.le_refl _)
  have hb := dec_byteD m
  cases hc : Lib.decDigits m with
  | nil => exact absurd hc (dec_neD m)
  | cons b r =>
    rw [hc] at hd hb
    obtain ⟨_, _, _, e1, e2⟩ := hb b List.mem_cons_self
    have : Lib.atoi (b :: r) = some (m : Int) := by
      simp [Lib.atoi, e1, e2, Lib.decNat, hd]
    rw [this]
    rfl
theorem itoa_injD {a b : Int} (ha : 0 ≤ a) (ha2 : a ≤ 30001) (hb : 0 ≤ b) (hb2 : b ≤ 30001) (h : Lib.itoa a = Lib.itoa b) : a = b := by
  have h1 := atoi_itoaD ha ha2
  rw [h, atoi_itoaD hb hb2] at h1
  injection h1 with h1
  exact h1.symm

/-- The parts of a text between one byte and the next one of its kind. -/
def splitC (c : UInt8) : List UInt8 → List (List UInt8)
  | [] => [[]]
  | x :: l => if x = c then [] :: splitC c l else match splitC c l with
    | [] => [[x]]
    | w :: r => (x :: w) :: r
theorem splitC_ne (c : UInt8) : ∀ l, splitC c l ≠ []
  | [] => by simp [splitC]
  | x :: l => by
    unfold splitC
    split
    · simp
    · split <;> simp
theorem splitC_none {c : UInt8} : ∀ {l : List UInt8}, c ∉ l → splitC c l = [l]
  | [], _ => rfl
  | x :: l, h => by
    have hx : x ≠ c := fun e => h (by simp [e])
    have hl := splitC_none (l := l) (fun e => h (List.mem_cons_of_mem _ e))
    unfold splitC
    rw [if_neg hx, hl]
theorem splitC_append (c : UInt8) (b : List UInt8) : ∀ a : List UInt8, splitC c (a ++ c :: b) = splitC c a ++ splitC c b
  | [] => by simp [splitC]
  | x :: a => by
    have ih := splitC_append c b a
    rw [List.cons_append]
    by_cases hx : x = c
    · subst hx
      simp only [splitC, if_true, ih, List.cons_append]
    · cases hs : splitC c a with
      | nil => exact absurd hs (splitC_ne c a)
      | cons w r =>
        rw [hs] at ih
        simp only [splitC, if_neg hx, ih, hs, List.cons_append]

/-- What the first byte of a kind cuts. -/
theorem index_of {c : UInt8} {a b : List UInt8} (h : c ∉ a) : Lib.indexByte (a ++ c :: b) c = a.length := by
  have hg := Lib.indexByte_ge (a ++ c :: b) c
  by_cases h1 : Lib.indexByte (a ++ c :: b) c = -1
  · exact absurd (by simp) (Lib.indexByte_none h1 a.length)
  · obtain ⟨o, ho⟩ : ∃ o : Nat, Lib.indexByte (a ++ c :: b) c = (o : Int) := ⟨(Lib.indexByte (a ++ c :: b) c).toNat, by omega⟩
    obtain ⟨h2, h3⟩ := Lib.indexByte_some ho
    rw [ho]
    have h4 : ¬ a.length < o := fun hlt => h3 a.length hlt (by simp)
    have h5 : ¬ o < a.length := fun hlt => by
      rw [List.getElem?_append_left hlt] at h2
      exact h (List.mem_of_getElem? h2)
    omega
theorem index_no {c : UInt8} {l : List UInt8} (h : c ∉ l) : Lib.indexByte l c = -1 := by
  have hg := Lib.indexByte_ge l c
  by_cases h1 : Lib.indexByte l c = -1
  · exact h1
  · obtain ⟨o, ho⟩ : ∃ o : Nat, Lib.indexByte l c = (o : Int) := ⟨(Lib.indexByte l c).toNat, by omega⟩
    exact absurd (List.mem_of_getElem? (Lib.indexByte_some ho).1) h
theorem index_cut {c : UInt8} {l : List UInt8} {o : Nat} (h : Lib.indexByte l c = (o : Int)) : o < l.length ∧ c ∉ l.take o ∧ l = l.take o ++ c :: l.drop (o + 1) := by
  obtain ⟨h2, h3⟩ := Lib.indexByte_some h
  obtain ⟨hlt, he⟩ := List.getElem?_eq_some_iff.1 h2
  refine ⟨hlt, fun hm => ?_, ?_⟩
  · obtain ⟨k, hk⟩ := List.getElem?_of_mem hm
    have hk2 : k < o := by
      have := (List.getElem?_eq_some_iff.1 hk).1
      rw [List.length_take] at this; omega
    rw [List.getElem?_take_of_lt hk2] at hk
    exact h3 k hk2 hk
  · rw [← he, ← List.drop_eq_getElem_cons hlt, List.take_append_drop]
theorem splitC_cut {c : UInt8} {l : List UInt8} {o : Nat} (h : Lib.indexByte l c = (o : Int)) : splitC c l = l.take o :: splitC c (l.drop (o + 1)) := by
  obtain ⟨h1, h2, h3⟩ := index_cut h
  have h4 := splitC_append c (l.drop (o + 1)) (l.take o)
  rw [← h3, splitC_none h2] at h4
  exact h4

/-- The parts of the texts of spans. -/
theorem spanT_byte {p : Int × Int} (h : okSp p) : (44 : UInt8) ∉ spanT p := by
  obtain ⟨h0, h1, h2⟩ := h
  unfold spanT
  intro hm
  rcases List.mem_append.1 hm with e | e
  · exact (itoa_byteD h0 _ e).2.2.1 rfl
  · split at e
    · cases e
    · rcases List.mem_cons.1 e with e | e
      · exact absurd e (by decide)
      · split at e
        · cases e
        · exact (itoa_byteD (by omega) _ e).2.2.1 rfl
theorem split_txD : ∀ (l : List (Int × Int)), l ≠ [] → (∀ p ∈ l, okSp p) → splitC 44 (txD l) = l.map spanT := by
  intro l
  generalize hn : l.length = n
  induction n generalizing l with
  | zero => intro h _; exact absurd (List.length_eq_zero_iff.1 hn) h
  | succ n ih =>
    intro _ hok
    rcases List.eq_nil_or_concat l with rfl | ⟨m, q, rfl⟩
    · simp at hn
    · rw [List.concat_eq_append] at hn hok ⊢
      have hm : m.length = n := by simpa using hn
      have hq := splitC_none (spanT_byte (hok q (by simp)))
      rw [txD_snoc]
      by_cases e : m = []
      · subst e
        rw [if_pos txD_nil, List.nil_append, hq]
        rfl
      · rw [if_neg (txD_ne m (fun p hp => (hok p (by simp [hp])).1) e), List.append_assoc, List.singleton_append, splitC_append, hq, ih m hm e (fun p hp => hok p (by simp [hp])), List.map_append]
        rfl

/-- The span that a text says, as the program reads it. -/
def spanV (x : List UInt8) : Option (Int × Int) :=
  if Lib.indexByte x 45 = -1 then (match Lib.atoiAll x with | .ok a => some (a, a) | _ => none)
  else match Lib.atoiAll (x.take (Lib.indexByte x 45).toNat) with
    | .ok a => if x.drop ((Lib.indexByte x 45).toNat + 1) = [] then some (a, 30000) else (match Lib.atoiAll (x.drop ((Lib.indexByte x 45).toNat + 1)) with | .ok b => some (a, b) | _ => none)
    | _ => none
theorem spanV_text {p : Int × Int} (h : okSp p) : spanV (spanT p) = some p := by
  obtain ⟨a, b⟩ := p
  obtain ⟨h0, h1, h2⟩ := h
  simp only at h0 h1 h2
  have hna : (45 : UInt8) ∉ Lib.itoa a := fun hm => (itoa_byteD h0 _ hm).2.2.2.1 rfl
  have ea := atoi_itoaD h0 (by omega)
  unfold spanT
  simp only
  by_cases e : a = b
  · subst e
    rw [if_pos rfl, List.append_nil]
    unfold spanV
    rw [if_pos (index_no hna), ea]
  · rw [if_neg e]
    have hi := index_of (b := if b = 30000 then [] else Lib.itoa b) hna
    unfold spanV
    rw [if_neg (by rw [hi]; omega), hi]
    have ht : ((Lib.itoa a).length : Int).toNat = (Lib.itoa a).length := by omega
    rw [ht, List.take_left, ea]
    have hd : List.drop ((Lib.itoa a).length + 1) (Lib.itoa a ++ 45 :: (if b = 30000 then [] else Lib.itoa b)) = (if b = 30000 then [] else Lib.itoa b) := by
      rw [← List.drop_drop, List.drop_left]; rfl
    rw [hd]
    by_cases e2 : b = 30000
    · subst e2
      simp
    · have hn := itoa_ne b (by omega)
      simp [e2, hn, atoi_itoaD (show 0 ≤ b by omega) (by omega)]

theorem spanIn_spansD : ∀ {t : List Int}, CanD t → ∀ d, spanIn (spansD t) d = inD t d
  | [], _, _ => rfl
  | [x], h, _ => by have := h.even; simp at this
  | x :: y :: t, h, d => by
    obtain ⟨h1, h2⟩ := List.pairwise_cons.1 h.asc
    obtain ⟨h3, h4⟩ := List.pairwise_cons.1 h2
    have hc : CanD t := ⟨h4, fun z hz => h.low z (by simp [hz]), fun z hz => h.top z (by simp [hz]), by have := h.even; simp at this; omega⟩
    have ih := spanIn_spansD hc d
    have hxy := h1 y (by simp)
    have e : spanIn (spansD (x :: y :: t)) d = (decide (x ≤ d) && decide (d ≤ y - 1) || spanIn (spansD t) d) := rfl
    rw [e, ih]
    unfold inD
    rw [cntD_cons, cntD_cons]
    by_cases c1 : d < y
    · have c0 : cntD t d = 0 := cntD_none fun z hz => by have := h3 z hz; omega
      rw [c0, if_neg (by omega : ¬ y ≤ d)]
      by_cases c2 : x ≤ d
      · rw [if_pos c2, decide_eq_true c2, decide_eq_true (by omega : d ≤ y - 1)]; rfl
      · rw [if_neg c2, decide_eq_false c2]; rfl
    · rw [if_pos (by omega : x ≤ d), if_pos (by omega : y ≤ d), decide_eq_false (by omega : ¬ d ≤ y - 1)]
      have e2 : oddD (1 + (1 + cntD t d)) = oddD (cntD t d) := by unfold oddD; congr 1; apply propext; omega
      rw [e2]; simp
theorem spansD_nil {t : List Int} (h : CanD t) (he : spansD t = []) : t = [] := by
  have h1 := spansD_len t
  rw [he] at h1
  have := h.even
  cases t with
  | nil => rfl
  | cons x r => cases r with
    | nil => simp at this
    | cons y r => simp at h1; omega

/-- How the text of a set begins. -/
theorem textD_head {t : List Int} (h : CanD t) (h1 : t ≠ []) (h2 : t ≠ [0, 30001]) : textD t = txD (spansD t) := by
  unfold textD; rw [if_neg h1, if_neg h2]
theorem txD_front : ∀ (l : List (Int × Int)), l ≠ [] → (∀ p ∈ l, okSp p) → ∃ b r, txD l = b :: r ∧ 48 ≤ b.toNat ∧ b.toNat ≤ 57 := by
  intro l
  generalize hn : l.length = n
  induction n generalizing l with
  | zero => intro h _; exact absurd (List.length_eq_zero_iff.1 hn) h
  | succ n ih =>
    intro _ hok
    rcases List.eq_nil_or_concat l with rfl | ⟨m, q, rfl⟩
    · simp at hn
    · rw [List.concat_eq_append] at hn hok ⊢
      have hm : m.length = n := by simpa using hn
      rw [txD_snoc]
      by_cases e : m = []
      · subst e
        rw [if_pos txD_nil, List.nil_append]
        have hq := (hok q (by simp)).1
        have hb := itoa_byteD hq
        have hne := itoa_ne q.1 hq
        unfold spanT
        cases hc : Lib.itoa q.1 with
        | nil => exact absurd hc hne
        | cons b r =>
          rw [hc] at hb
          obtain ⟨b1, b2, _⟩ := hb b (by simp)
          exact ⟨b, _, rfl, b1, b2⟩
      · obtain ⟨b, r, hb, b1, b2⟩ := ih m hm e (fun p hp => hok p (by simp [hp]))
        rw [if_neg (by rw [hb]; simp), hb]
        exact ⟨b, _, rfl, b1, b2⟩
theorem textD_none {t : List Int} (h : CanD t) (e : textD t = noneB) : t = [] := by
  by_cases h1 : t = []
  · exact h1
  · by_cases h2 : t = [0, 30001]
    · subst h2; exact absurd e (by decide)
    · rw [textD_head h h1 h2] at e
      obtain ⟨b, r, hb, b1, b2⟩ := txD_front (spansD t) (fun e => h1 (spansD_nil h e)) (spansD_ok h)
      rw [hb] at e
      injection e with e _
      subst e
      exact absurd b2 (by decide)
theorem textD_all {t : List Int} (h : CanD t) (e : textD t = allB) : t = [0, 30001] := by
  by_cases h1 : t = []
  · subst h1; exact absurd e (by decide)
  · by_cases h2 : t = [0, 30001]
    · exact h2
    · rw [textD_head h h1 h2] at e
      obtain ⟨b, r, hb, b1, b2⟩ := txD_front (spansD t) (fun e => h1 (spansD_nil h e)) (spansD_ok h)
      rw [hb] at e
      injection e with e _
      subst e
      exact absurd b2 (by decide)
/-- What the parts of a text say, if it is that of a set. -/
theorem textD_parts {t : List Int} {l : List UInt8} (h : CanD t) (e : textD t = l) (h1 : l ≠ noneB) (h2 : l ≠ allB) : splitC 44 l = (spansD t).map spanT ∧ spansD t ≠ [] ∧ txD (spansD t) = l := by
  have t1 : t ≠ [] := fun e2 => h1 (by rw [← e, e2]; rfl)
  have t2 : t ≠ [0, 30001] := fun e2 => h2 (by rw [← e, e2]; rfl)
  have t3 : spansD t ≠ [] := fun e => t1 (spansD_nil h e)
  rw [textD_head h t1 t2] at e
  rw [← e]
  exact ⟨split_txD _ t3 (spansD_ok h), t3, rfl⟩
theorem spanT_inj {p q : Int × Int} (hp : okSp p) (hq : okSp q) (h : spanT p = spanT q) : p = q := by
  have h1 := spanV_text hp
  rw [h, spanV_text hq] at h1
  injection h1 with h1
  exact h1.symm
theorem map_spanT_inj : ∀ {l m : List (Int × Int)}, (∀ p ∈ l, okSp p) → (∀ p ∈ m, okSp p) → l.map spanT = m.map spanT → l = m
  | [], [], _, _, _ => rfl
  | [], _ :: _, _, _, h => by simp at h
  | _ :: _, [], _, _, h => by simp at h
  | p :: l, q :: m, hl, hm, h => by
    rw [List.map_cons, List.map_cons] at h
    injection h with h1 h2
    rw [spanT_inj (hl p (by simp)) (hm q (by simp)) h1, map_spanT_inj (fun p hp => hl p (by simp [hp])) (fun p hp => hm p (by simp [hp])) h2]
theorem textD_inj {t u : List Int} (ht : CanD t) (hu : CanD u) (h : textD t = textD u) : t = u := by
  by_cases h1 : textD u = noneB
  · rw [textD_none hu h1, textD_none ht (h.trans h1)]
  · by_cases h2 : textD u = allB
    · rw [textD_all hu h2, textD_all ht (h.trans h2)]
    · obtain ⟨a1, _, _⟩ := textD_parts ht h h1 h2
      obtain ⟨b1, _, _⟩ := textD_parts hu rfl h1 h2
      have e := map_spanT_inj (spansD_ok ht) (spansD_ok hu) (a1.symm.trans b1)
      refine canD_unique ht hu fun d _ _ => ?_
      rw [← spanIn_spansD ht, ← spanIn_spansD hu, e]
/-- The spans that the parts of a text say, if each says one. -/
def spansV (l : List UInt8) : List (Int × Int) := (splitC 44 l).filterMap spanV
theorem spansV_text {t : List Int} {l : List UInt8} (h : CanD t) (e : textD t = l) (h1 : l ≠ noneB) (h2 : l ≠ allB) : spansV l = spansD t ∧ ∀ x ∈ splitC 44 l, (spanV x).isSome = true := by
  obtain ⟨a, _, _⟩ := textD_parts h e h1 h2
  have hok := spansD_ok h
  unfold spansV
  rw [a]
  constructor
  · rw [List.filterMap_map]
    generalize spansD t = m at hok
    induction m with
    | nil => rfl
    | cons p m ih =>
      rw [List.filterMap_cons_some (show (spanV ∘ spanT) p = some p from spanV_text (hok p (by simp))), ih (fun q hq => hok q (by simp [hq]))]
  · intro x hx
    obtain ⟨p, hp, rfl⟩ := List.mem_map.1 hx
    rw [spanV_text (hok p hp)]; rfl
/-- Whatever days are inside: there are turns that say so. -/
theorem canD_of (f : Int → Bool) (h1 : ∀ d, d < 0 → f d = false) (h2 : ∀ d, 30000 < d → f d = false) : ∃ t, CanD t ∧ ∀ d, inD t d = f d := by
  obtain ⟨t, ht⟩ : ∃ t : List Int, t = ((List.range 30002).map (fun k : Nat => (k : Int))).filter (fun d => decide (f d ≠ f (d - 1))) := ⟨_, rfl⟩
  have hm : ∀ d, d ∈ t ↔ (0 ≤ d ∧ d ≤ 30001) ∧ f d ≠ f (d - 1) := fun d => by
    rw [ht, List.mem_filter, List.mem_map, decide_eq_true_eq]
    constructor
    · rintro ⟨⟨k, hk, rfl⟩, h⟩
      have := List.mem_range.1 hk
      exact ⟨⟨by omega, by omega⟩, h⟩
    · rintro ⟨⟨a, b⟩, h⟩
      exact ⟨⟨d.toNat, List.mem_range.2 (by omega), by omega⟩, h⟩
  have hasc : t.Pairwise (· < ·) := by
    rw [ht]
    refine List.Pairwise.filter _ ?_
    rw [List.pairwise_map]
    exact List.pairwise_lt_range.imp fun h => by omega
  have hlow : ∀ x ∈ t, 0 ≤ x := fun x hx => ((hm x).1 hx).1.1
  have htop : ∀ x ∈ t, x ≤ 30001 := fun x hx => ((hm x).1 hx).1.2
  have hneg : ∀ d, d < 0 → inD t d = false := fun d hd => by
    unfold inD
    rw [cntD_none fun x hx => by have := hlow x hx; omega]; rfl
  have hval : ∀ n : Nat, inD t ((n : Int) - 1) = f ((n : Int) - 1) := by
    intro n
    induction n with
    | zero => rw [hneg _ (by omega), h1 _ (by omega)]
    | succ n ih =>
      have e : ((n + 1 : Nat) : Int) - 1 = (n : Int) := by omega
      rw [e]
      have hs := cntD_step hasc (n : Int)
      unfold inD at ih ⊢
      rw [hs]
      by_cases hd : (n : Int) ∈ t
      · rw [if_pos hd, oddD_succ, ih]
        have := ((hm _).1 hd).2
        cases h3 : f (n : Int) <;> cases h4 : f ((n : Int) - 1) <;> simp_all
      · rw [if_neg hd, Nat.add_zero, ih]
        by_cases h3 : (n : Int) ≤ 30001
        · have : ¬ f (n : Int) ≠ f ((n : Int) - 1) := fun h4 => hd ((hm _).2 ⟨⟨by omega, h3⟩, h4⟩)
          exact (Classical.not_not.1 this).symm
        · rw [h2 _ (by omega), h2 _ (by omega)]
  have hall : ∀ d, inD t d = f d := fun d => by
    by_cases hd : d < 0
    · rw [hneg d hd, h1 d hd]
    · have := hval (d.toNat + 1)
      have e : ((d.toNat + 1 : Nat) : Int) - 1 = d := by omega
      rwa [e] at this
  refine ⟨t, ⟨hasc, hlow, htop, ?_⟩, hall⟩
  have h5 := hall 30001
  rw [h2 _ (by omega)] at h5
  unfold inD at h5
  rw [cntD_all htop] at h5
  unfold oddD at h5
  have := of_decide_eq_false h5
  omega
theorem canD_spans {l : List (Int × Int)} (h : ∀ p ∈ l, okSp p) : ∃ t, CanD t ∧ ∀ d, inD t d = spanIn l d := by
  refine canD_of (spanIn l) (fun d hd => ?_) (fun d hd => ?_)
  · unfold spanIn
    rw [List.any_eq_false]
    intro p hp
    have := h p hp
    unfold okSp at this
    rw [decide_eq_false (by omega : ¬ p.1 ≤ d)]; simp
  · unfold spanIn
    rw [List.any_eq_false]
    intro p hp
    have := h p hp
    unfold okSp at this
    rw [decide_eq_false (by omega : ¬ d ≤ p.2)]; simp

/-- What digits say. -/
def valD (l : List UInt8) : Nat := l.foldl (fun n b => 10 * n + (b.toNat - 48)) 0
theorem valD_snoc (l : List UInt8) (b : UInt8) : valD (l ++ [b]) = 10 * valD l + (b.toNat - 48) := by
  unfold valD; rw [List.foldl_append]; rfl
theorem valD_mono (l m : List UInt8) : valD l ≤ valD (l ++ m) := by
  generalize hn : m.length = n
  induction n generalizing m with
  | zero => rw [List.length_eq_zero_iff.1 hn, List.append_nil]; exact Nat.le_refl _
  | succ n ih =>
    rcases List.eq_nil_or_concat m with rfl | ⟨k, b, rfl⟩
    · simp at hn
    · rw [List.concat_eq_append] at hn ⊢
      rw [← List.append_assoc, valD_snoc]
      have := ih k (by simpa using hn)
      omega
theorem valD_dec : ∀ (d n : Nat), n ≤ d → valD (Lib.decDigits n) = n := by
  intro d
  induction d with
  | zero =>
    intro n h
    obtain rfl : n = 0 := by omega
    rw [Lib.decDigits_one (by omega)]; rfl
  | succ d ih =>
    intro n h
    have hb : ∀ k : Fin 10, (UInt8.ofNat (48 + k.val)).toNat - 48 = k.val := by decide
    by_cases h10 : n < 10
    · rw [Lib.decDigits_one h10]
      have := hb ⟨n, h10⟩
      show 10 * 0 + _ = _
      simp only at this
      omega
    · rw [Lib.decDigits, dif_neg h10, valD_snoc, ih (n / 10) (by omega)]
      have := hb ⟨n % 10, by omega⟩
      simp only at this
      omega
theorem valD_itoa {n : Int} (h : 0 ≤ n) : (valD (Lib.itoa n) : Int) = n := by
  obtain ⟨m, rfl⟩ : ∃ m : Nat, n = (m : Int) := ⟨n.toNat, by omega⟩
  rw [Lib.itoa_nonneg, valD_dec m m (Nat.le_refl _)]
theorem valD_take {l : List UInt8} {n : Int} (h0 : 0 ≤ n) (h : l = Lib.itoa n) (k : Nat) : (valD (l.take k) : Int) ≤ n := by
  have h1 := valD_mono (l.take k) (l.drop k)
  rw [List.take_append_drop] at h1
  have h2 := valD_itoa h0
  rw [← h] at h2
  omega
/-- How the text of a span is cut. -/
theorem spanT_cut {p : Int × Int} {x y : List UInt8} (h : okSp p) (hx : (45 : UInt8) ∉ x) (e : x ++ 45 :: y = spanT p) : x = Lib.itoa p.1 ∧ p.1 ≠ p.2 ∧ (y = [] → p.2 = 30000) ∧ (y ≠ [] → y = Lib.itoa p.2) := by
  obtain ⟨a, b⟩ := p
  obtain ⟨h0, h1, h2⟩ := h
  simp only at h0 h1 h2
  have hna : (45 : UInt8) ∉ Lib.itoa a := fun hm => (itoa_byteD h0 _ hm).2.2.2.1 rfl
  unfold spanT at e
  simp only at e ⊢
  by_cases hab : a = b
  · exfalso
    rw [if_pos hab, List.append_nil] at e
    exact hna (by rw [← e]; simp)
  · rw [if_neg hab] at e
    have i1 := index_of (b := y) hx
    have i2 := index_of (b := if b = 30000 then [] else Lib.itoa b) hna
    rw [e, i2] at i1
    have hl : x.length = (Lib.itoa a).length := by omega
    obtain ⟨e1, e2⟩ := List.append_inj e hl
    injection e2 with _ e2
    refine ⟨e1, hab, fun hy => ?_, fun hy => ?_⟩
    · by_cases hb : b = 30000
      · exact hb
      · rw [if_neg hb] at e2
        exact absurd (e2.symm.trans hy) (itoa_ne b (by omega))
    · by_cases hb : b = 30000
      · rw [if_pos hb] at e2; exact absurd e2 hy
      · rw [if_neg hb] at e2; exact e2
theorem spanT_plain {p : Int × Int} {x : List UInt8} (h : okSp p) (hx : (45 : UInt8) ∉ x) (e : x = spanT p) : p.1 = p.2 ∧ x = Lib.itoa p.1 := by
  unfold spanT at e
  by_cases hab : p.1 = p.2
  · rw [if_pos hab, List.append_nil] at e; exact ⟨hab, e⟩
  · exfalso
    rw [if_neg hab] at e
    exact hx (by rw [e]; simp)
end Go.Proofs.YtjglnpijngdpkaaGreatDoor
