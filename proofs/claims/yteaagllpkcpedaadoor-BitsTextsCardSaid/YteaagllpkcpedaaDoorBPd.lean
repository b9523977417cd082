/-
  The text of a set, read by bits.Parse, is the set: trimmed, cut into fields, each field its number.
-/
import Derived.Test.YteaagllpkcpedaaDoorBPs
import Derived.Test.YteaagllpkcpedaaDoorBRn
import Derived.Lib.AtoiTie
namespace Go.Proofs.YteaagllpkcpedaaDoor
open Go.Shelf

theorem digit_val : ∀ n : Fin 10, Lib.digitVal (UInt8.ofNat (48 + n.val)) = some n.val := by decide
theorem decFrom_dec : ∀ (d n : Nat), n ≤ d → Lib.decFrom 0 (Lib.decDigits n) = some n := by
  intro d
  induction d with
  | zero =>
    intro n h
    obtain rfl : n = 0 := by omega
    rw [Lib.decDigits_one (by omega)]
    exact Lib.decFrom_take [UInt8.ofNat 48] 0 0 0 _ 0 rfl rfl (digit_val ⟨0, by omega⟩)
  | succ d ih =>
    intro n h
    by_cases h10 : n < 10
    · rw [Lib.decDigits_one h10]
      have := Lib.decFrom_take [UInt8.ofNat (48 + n)] 0 0 0 _ n rfl rfl (digit_val ⟨n, h10⟩)
      simpa using this
    · have h1 := ih (n / 10) (by omega)
      rw [Lib.decDigits, dif_neg h10]
      have := Lib.decFrom_take (Lib.decDigits (n / 10) ++ [UInt8.ofNat (48 + n % 10)]) (Lib.decDigits (n / 10)).length 0 (n / 10) (UInt8.ofNat (48 + n % 10)) (n % 10) (by rw [List.take_left]; exact h1) (by simp) (digit_val ⟨n % 10, by omega⟩)
      rw [List.take_of_length_le (by simp)] at this
      rw [this]
      congr 1; omega
theorem dec_mem : ∀ (d n : Nat), n ≤ d → ∀ b ∈ Lib.decDigits n, ∃ k, k < 10 ∧ b = UInt8.ofNat (48 + k) := by
  intro d
  induction d with
  | zero =>
    intro n h b hb
    obtain rfl : n = 0 := by omega
    rw [Lib.decDigits_one (by omega)] at hb
    exact ⟨0, by omega, by simpa using hb⟩
  | succ d ih =>
    intro n h b hb
    by_cases h10 : n < 10
    · rw [Lib.decDigits_one h10] at hb
      exact ⟨n, h10, by simpa using hb⟩
    · rw [Lib.decDigits, dif_neg h10] at hb
      rcases List.mem_append.1 hb with hb | hb
      · exact ih (n / 10) (by omega) b hb
      · exact ⟨n % 10, by omega, by simpa using hb⟩
theorem dec_byte (n : Nat) : ∀ b ∈ Lib.decDigits n, b.toNat < 128 ∧ Lib.isSp b = false ∧ b ≠ 123 ∧ b ≠ 125 ∧ b ≠ 45 ∧ b ≠ 43 := by
  intro b hb
  obtain ⟨k, hk, rfl⟩ := dec_mem n n (Nat.le_refl _) b hb
  have : ∀ k : Fin 10, (UInt8.ofNat (48 + k.val)).toNat < 128 ∧ Lib.isSp (UInt8.ofNat (48 + k.val)) = false ∧ UInt8.ofNat (48 + k.val) ≠ 123 ∧ UInt8.ofNat (48 + k.val) ≠ 125 ∧ UInt8.ofNat (48 + k.val) ≠ 45 ∧ UInt8.ofNat (48 + k.val) ≠ 43 := by decide
  exact this ⟨k, hk⟩
theorem atoi_dec (n : Nat) (h : n < 10000) : Lib.atoiAll (Lib.decDigits n) = .ok (n : Int) := by
  have hl := decDigits_len4 h
  have h1 := decDigits_len n
  rw [Lib.atoiAll_short _ (by omega)]
  have hd := decFrom_dec n n (Nat.le_refl _)
  have hb := dec_byte n
  cases hc : Lib.decDigits n with
  | nil => rw [hc] at h1; simp at h1
  | cons b r =>
    rw [hc] at hd hb
    obtain ⟨_, _, _, _, e1, e2⟩ := hb b List.mem_cons_self
    have : Lib.atoi (b :: r) = some (n : Int) := by
      simp [Lib.atoi, e1, e2, Lib.decNat, hd]
    rw [this]
    rfl

/-- Numbers in decimal, a blank between them. -/
def joinD : List Nat → List UInt8
  | [] => []
  | [n] => Lib.decDigits n
  | n :: ns => Lib.decDigits n ++ [32] ++ joinD ns
theorem joinD_cons (n m : Nat) (ns : List Nat) : joinD (n :: m :: ns) = Lib.decDigits n ++ [32] ++ joinD (m :: ns) := rfl
theorem joinD_snoc : ∀ (ns : List Nat) (n : Nat), ns ≠ [] → joinD (ns ++ [n]) = joinD ns ++ [32] ++ Lib.decDigits n
  | [], _, h => absurd rfl h
  | [m], n, _ => by simp [joinD]
  | m :: k :: ns, n, _ => by
    rw [List.cons_append, List.cons_append, joinD_cons, joinD_cons, ← List.cons_append, joinD_snoc (k :: ns) n (by simp)]
    simp
theorem txt_join (ns : List Nat) : txt (natL ns) = 123 :: joinD ns := by
  generalize hn : ns.length = k
  induction k generalizing ns with
  | zero => obtain rfl := List.length_eq_zero_iff.1 hn; rfl
  | succ k ih =>
    obtain ⟨ys, y, rfl⟩ : ∃ ys y, ns = ys ++ [y] := by
      rcases List.eq_nil_or_concat ns with rfl | ⟨ys, y, rfl⟩
      · simp at hn
      · exact ⟨ys, y, by simp⟩
    have e : natL (ys ++ [y]) = natL ys ++ [(y : Int)] := by simp [natL]
    rw [e, txt_snoc, ih ys (by simpa using hn), Lib.itoa_nonneg]
    by_cases h0 : ys = []
    · subst h0; simp [joinD]
    · have h1 : joinD ys ≠ [] := by
        cases ys with
        | nil => exact absurd rfl h0
        | cons a t =>
          have := decDigits_len a
          cases t with
          | nil => intro e2; rw [joinD] at e2; rw [e2] at this; simp at this
          | cons b t => intro e2; rw [joinD_cons] at e2; simp at e2
      rw [if_pos (by cases hj : joinD ys with | nil => exact absurd hj h1 | cons a t => simp), joinD_snoc ys y h0]
      simp
/-- What begins and ends with digits. -/
theorem join_head (n : Nat) (ns : List Nat) : ∃ b r, joinD (n :: ns) = b :: r ∧ b ∈ Lib.decDigits n := by
  have h1 := decDigits_len n
  cases hc : Lib.decDigits n with
  | nil => rw [hc] at h1; simp at h1
  | cons b r =>
    cases ns with
    | nil => exact ⟨b, r, by rw [joinD, hc], List.mem_cons_self⟩
    | cons m ns => exact ⟨b, r ++ [32] ++ joinD (m :: ns), by rw [joinD_cons, hc]; simp, List.mem_cons_self⟩
theorem join_last (ns : List Nat) (h : ns ≠ []) : ∃ r b n, joinD ns = r ++ [b] ∧ b ∈ Lib.decDigits n := by
  obtain ⟨ys, y, rfl⟩ : ∃ ys y, ns = ys ++ [y] := by
    rcases List.eq_nil_or_concat ns with rfl | ⟨ys, y, rfl⟩
    · exact absurd rfl h
    · exact ⟨ys, y, by simp⟩
  have h1 := decDigits_len y
  obtain ⟨d, b, hd⟩ : ∃ d b, Lib.decDigits y = d ++ [b] := by
    rcases List.eq_nil_or_concat (Lib.decDigits y) with e | ⟨d, b, e⟩
    · rw [e] at h1; simp at h1
    · exact ⟨d, b, by simpa using e⟩
  by_cases h0 : ys = []
  · subst h0
    exact ⟨d, b, y, by simpa [joinD] using hd, by rw [hd]; simp⟩
  · exact ⟨joinD ys ++ [32] ++ d, b, y, by rw [joinD_snoc ys y h0, hd]; simp, by rw [hd]; simp⟩
theorem trim_text (ns : List Nat) : Lib.trimS (123 :: (joinD ns ++ [125])) [123, 125] = joinD ns := by
  unfold Lib.trimS Lib.trimRightS Lib.trimLeftS
  cases ns with
  | nil => simp [joinD, List.dropWhile]
  | cons n ns =>
    obtain ⟨r, b, m, e1, hb⟩ := join_last (n :: ns) (by simp)
    obtain ⟨c, t, e2, hc⟩ := join_head n ns
    obtain ⟨_, _, x1, x2, _, _⟩ := dec_byte m b hb
    obtain ⟨_, _, y1, y2, _, _⟩ := dec_byte n c hc
    have f1 : (123 :: (joinD (n :: ns) ++ [125])).reverse = 125 :: b :: (123 :: r).reverse := by rw [e1]; simp
    rw [f1]
    have g1 : ([123, 125] : List UInt8).contains 125 = true := by decide
    have g2 : ([123, 125] : List UInt8).contains b = false := by simp [x1, x2]
    have g3 : ([123, 125] : List UInt8).contains 123 = true := by decide
    have g4 : ([123, 125] : List UInt8).contains c = false := by simp [y1, y2]
    rw [List.dropWhile_cons_of_pos g1, List.dropWhile_cons_of_neg (by simp [x1, x2])]
    have f2 : (b :: (123 :: r).reverse).reverse = 123 :: joinD (n :: ns) := by rw [e1]; simp
    rw [f2, List.dropWhile_cons_of_pos g3, e2, List.dropWhile_cons_of_neg (by simp [y1, y2])]

theorem at_list (l : List UInt8) (i : Nat) (h : i < l.length) (hb : l[i].toNat < 128) : szAt ⟨l.toArray⟩ i = 1 ∧ spAt ⟨l.toArray⟩ i = Lib.isSp l[i] := by
  have e : (ByteArray.mk l.toArray).data.toList.getD i 0 = l[i] := by simp [List.getD, h]
  unfold szAt spAt
  rw [e, if_pos hb, if_pos hb]
  exact ⟨rfl, rfl⟩
theorem extract_list (a b c : List UInt8) : ByteArray.extract ⟨(a ++ b ++ c).toArray⟩ a.length (a.length + b.length) = ⟨b.toArray⟩ := by
  refine ByteArray.ext ?_
  rw [ByteArray.data_extract]
  simp [List.extract_toArray, List.extract_eq_take_drop]
/-- Along characters that are no blanks. -/
theorem fgo_run (l : List UInt8) : ∀ (k f i b : Nat), (∀ j, j < k → ∃ h : i + j < l.length, l[i + j].toNat < 128 ∧ Lib.isSp l[i + j] = false) → fgo ⟨l.toArray⟩ (f + k) i (some b) = fgo ⟨l.toArray⟩ f (i + k) (some b)
  | 0, f, i, b, _ => rfl
  | k + 1, f, i, b, h => by
    obtain ⟨h0, h1, h2⟩ := h 0 (by omega)
    obtain ⟨e1, e2⟩ := at_list l i h0 h1
    rw [show f + (k + 1) = (f + k) + 1 by omega, fgo_ns (show i < l.toArray.size by simpa using h0) (by rw [e2]; exact h2), e1, fgo_run l k f (i + 1) b (fun j hj => by
      obtain ⟨g0, g1, g2⟩ := h (j + 1) (by omega)
      refine ⟨by omega, ?_, ?_⟩
      · simpa [show i + 1 + j = i + (j + 1) by omega] using g1
      · simpa [show i + 1 + j = i + (j + 1) by omega] using g2)]
    congr 1; omega
/-- Along a field. -/
theorem fgo_field (pre D rest : List UInt8) (f : Nat) (h0 : D ≠ []) (hD : ∀ b ∈ D, b.toNat < 128 ∧ Lib.isSp b = false) :
    fgo ⟨(pre ++ D ++ rest).toArray⟩ (f + D.length) pre.length none = fgo ⟨(pre ++ D ++ rest).toArray⟩ f (pre.length + D.length) (some pre.length) := by
  obtain ⟨d, hd⟩ : ∃ d, D.length = d + 1 := ⟨D.length - 1, by have := List.length_pos_iff.2 h0; omega⟩
  have hat : ∀ j, j < D.length → ∃ h : pre.length + j < (pre ++ D ++ rest).length, (pre ++ D ++ rest)[pre.length + j].toNat < 128 ∧ Lib.isSp (pre ++ D ++ rest)[pre.length + j] = false := by
    intro j hj
    have hlt : pre.length + j < (pre ++ D ++ rest).length := by simp; omega
    have e : (pre ++ D ++ rest)[pre.length + j] = D[j] := by
      rw [List.getElem_append_left (by simp; omega), List.getElem_append_right (by omega)]
      simp
    exact ⟨hlt, by rw [e]; exact hD _ (List.getElem_mem _)⟩
  obtain ⟨g0, g1, g2⟩ := hat 0 (by omega)
  obtain ⟨e1, e2⟩ := at_list _ _ g0 g1
  rw [g2] at e2
  rw [Nat.add_zero] at e1 e2
  have hsz : pre.length < (ByteArray.mk (pre ++ D ++ rest).toArray).size := by simp [ByteArray.size]; omega
  rw [hd, show f + (d + 1) = (f + d) + 1 by omega, fgo_nn hsz e2, e1]
  rw [fgo_run (pre ++ D ++ rest) d f (pre.length + 1) pre.length (fun j hj => by
    obtain ⟨k0, k1, k2⟩ := hat (j + 1) (by omega)
    refine ⟨by omega, ?_, ?_⟩
    · simpa [show pre.length + 1 + j = pre.length + (j + 1) by omega] using k1
    · simpa [show pre.length + 1 + j = pre.length + (j + 1) by omega] using k2)]
  congr 1; omega
theorem fgo_join : ∀ (ns : List Nat) (pre : List UInt8) (f : Nat), ns ≠ [] → (joinD ns).length < f → fgo ⟨(pre ++ joinD ns).toArray⟩ f pre.length none = ns.map fun n => ⟨(Lib.decDigits n).toArray⟩
  | [], _, _, h, _ => absurd rfl h
  | [n], pre, f, _, hf => by
    rw [joinD] at hf ⊢
    have h0 : Lib.decDigits n ≠ [] := fun e => by have := decDigits_len n; rw [e] at this; simp at this
    have := fgo_field pre (Lib.decDigits n) [] (f - (Lib.decDigits n).length) h0 (fun b hb => ⟨(dec_byte n b hb).1, (dec_byte n b hb).2.1⟩)
    rw [List.append_nil, show f - (Lib.decDigits n).length + (Lib.decDigits n).length = f by omega] at this
    rw [this]
    obtain ⟨f', hf'⟩ : ∃ f', f - (Lib.decDigits n).length = f' + 1 := ⟨f - (Lib.decDigits n).length - 1, by omega⟩
    have hsz : (ByteArray.mk (pre ++ Lib.decDigits n).toArray).size = pre.length + (Lib.decDigits n).length := by simp [ByteArray.size]
    rw [hf', fgo_es (by rw [hsz]; omega), hsz]
    have := extract_list pre (Lib.decDigits n) []
    rw [List.append_nil] at this
    rw [this]; rfl
  | n :: m :: ns, pre, f, _, hf => by
    rw [joinD_cons] at hf ⊢
    rw [List.length_append, List.length_append] at hf
    have h0 : Lib.decDigits n ≠ [] := fun e => by have := decDigits_len n; rw [e] at this; simp at this
    have h1 := fgo_field pre (Lib.decDigits n) ([32] ++ joinD (m :: ns)) (f - (Lib.decDigits n).length) h0 (fun b hb => ⟨(dec_byte n b hb).1, (dec_byte n b hb).2.1⟩)
    rw [show f - (Lib.decDigits n).length + (Lib.decDigits n).length = f by omega] at h1
    have e : pre ++ (Lib.decDigits n ++ [32] ++ joinD (m :: ns)) = pre ++ Lib.decDigits n ++ ([32] ++ joinD (m :: ns)) := by simp
    rw [e, h1]
    obtain ⟨f', hf'⟩ : ∃ f', f - (Lib.decDigits n).length = f' + 1 := ⟨f - (Lib.decDigits n).length - 1, by simp at hf; omega⟩
    have hlt : pre.length + (Lib.decDigits n).length < (pre ++ Lib.decDigits n ++ ([32] ++ joinD (m :: ns))).length := by simp
    have hel : (pre ++ Lib.decDigits n ++ ([32] ++ joinD (m :: ns)))[pre.length + (Lib.decDigits n).length] = 32 := by
      rw [List.getElem_append_right (by simp)]
      simp
    obtain ⟨e1, e2⟩ := at_list _ _ hlt (by rw [hel]; decide)
    have hsz : pre.length + (Lib.decDigits n).length < (ByteArray.mk (pre ++ Lib.decDigits n ++ ([32] ++ joinD (m :: ns))).toArray).size := by simp [ByteArray.size]
    rw [hf', fgo_ss hsz (by rw [e2, hel]; decide), e1, extract_list]
    have ih := fgo_join (m :: ns) (pre ++ Lib.decDigits n ++ [32]) f' (by simp) (by simp at hf; omega)
    have e3 : pre ++ Lib.decDigits n ++ [32] ++ joinD (m :: ns) = pre ++ Lib.decDigits n ++ ([32] ++ joinD (m :: ns)) := by simp
    have e4 : (pre ++ Lib.decDigits n ++ [32]).length = pre.length + (Lib.decDigits n).length + 1 := by simp [Nat.add_assoc]
    rw [e3, e4] at ih
    rw [ih]; rfl

/-- The text of a set says the set. -/
theorem parse_text {M : Nat} (hM : Small M) : parseS ⟨(textS M).toArray⟩ = some M := by
  have hns : ∀ n ∈ memN M 4096, n < 4096 := fun n hn => by
    simp only [memN, List.mem_filter, List.mem_range] at hn
    exact hn.1
  have et : textS M = 123 :: (joinD (memN M 4096) ++ [125]) := by
    unfold textS
    rw [memM_natL, txt_join, List.cons_append]
  have eb : trimB ⟨(textS M).toArray⟩ = ⟨(joinD (memN M 4096)).toArray⟩ := by
    unfold trimB
    rw [if_neg (by rw [et]; simp [ByteArray.size]), et]
    show ByteArray.mk (Lib.trimS (123 :: (joinD (memN M 4096) ++ [125])) [123, 125]).toArray = _
    rw [trim_text]
  have ef : fieldsS ⟨(joinD (memN M 4096)).toArray⟩ = (memN M 4096).map fun n => ⟨(Lib.decDigits n).toArray⟩ := by
    unfold fieldsS
    by_cases h0 : memN M 4096 = []
    · rw [h0]
      exact fgo_en (by simp [joinD, ByteArray.size])
    · have := fgo_join (memN M 4096) [] ((ByteArray.mk (joinD (memN M 4096)).toArray).size + 1) h0 (by simp [ByteArray.size])
      simpa using this
  have ev : ∀ n, n < 4096 → fieldV ⟨(Lib.decDigits n).toArray⟩ = some (n : Int) := fun n hn => by
    unfold fieldV
    show (match Lib.atoiAll (Lib.decDigits n) with | .ok v => if 0 ≤ v ∧ v ≤ 4095 then some v else none | _ => none) = _
    rw [atoi_dec n (by omega)]
    show (if _ then _ else _) = _
    rw [if_pos (by omega)]
  have evs : valsOf ((memN M 4096).map fun n => ⟨(Lib.decDigits n).toArray⟩) = memM M 4096 := by
    rw [memM_natL]
    unfold valsOf natL
    generalize memN M 4096 = l at hns
    clear et eb ef
    induction l with
    | nil => rfl
    | cons n t ih =>
      rw [List.map_cons, List.filterMap_cons, ev n (hns n List.mem_cons_self), ih (fun m hm => hns m (List.mem_cons_of_mem _ hm))]
      rfl
  unfold parseS
  rw [eb, ef, evs, maskOf_memS hM, if_pos]
  simp only [Bool.and_eq_true, beq_iff_eq, and_true, List.all_eq_true, List.mem_map]
  rintro x ⟨n, hn, rfl⟩
  rw [ev n (hns n hn)]
  rfl
end Go.Proofs.YteaagllpkcpedaaDoor
