/-
  The plain mathematics of CRC-32C on numbers: the step, its linearity, four steps by a table, products of polynomials, what checksums of joined bytes are.
-/
namespace Go.Proofs.YtdmnanocmpkhjaaDoor
def stp (c : Nat) : Nat := if c % 2 = 1 then (c / 2) ^^^ 0x82F63B78 else c / 2
def sts : Nat → Nat → Nat
  | 0, c => c
  | n + 1, c => sts n (stp c)

theorem stp_zero : stp 0 = 0 := rfl
theorem sts_zero (n : Nat) : sts n 0 = 0 := by
  induction n with
  | zero => rfl
  | succ n ih => exact ih

theorem stp_xor (a b : Nat) : stp (a ^^^ b) = stp a ^^^ stp b := by
  unfold stp
  have h := @Nat.xor_mod_two_eq_one a b
  have hd := @Nat.xor_div_two a b
  by_cases ha : a % 2 = 1 <;> by_cases hb : b % 2 = 1
  · rw [if_neg (by rw [h]; simp [ha, hb]), if_pos ha, if_pos hb, hd]
    rw [show a / 2 ^^^ 2197175160 ^^^ (b / 2 ^^^ 2197175160) = a / 2 ^^^ b / 2 ^^^ (2197175160 ^^^ 2197175160) by ac_rfl, Nat.xor_self, Nat.xor_zero]
  · rw [if_pos (by rw [h]; simp [ha, hb]), if_pos ha, if_neg hb, hd]
    ac_rfl
  · rw [if_pos (by rw [h]; simp [ha, hb]), if_neg ha, if_pos hb, hd]
    ac_rfl
  · rw [if_neg (by rw [h]; simp [ha, hb]), if_neg ha, if_neg hb, hd]

theorem sts_xor (n a b : Nat) : sts n (a ^^^ b) = sts n a ^^^ sts n b := by
  induction n generalizing a b with
  | zero => rfl
  | succ n ih => rw [sts, stp_xor, ih]; rfl

theorem sts_add (n m c : Nat) : sts (n + m) c = sts m (sts n c) := by
  induction n generalizing c with
  | zero => rw [Nat.zero_add]; rfl
  | succ n ih => rw [Nat.succ_add, sts, ih]; rfl

theorem sts_stp (n c : Nat) : sts n (stp c) = stp (sts n c) := by
  rw [show sts n (stp c) = sts (1 + n) c by rw [sts_add]; rfl, Nat.add_comm, sts_add]; rfl

theorem stp_lt {c : Nat} (h : c < 2 ^ 32) : stp c < 2 ^ 32 := by
  unfold stp
  split
  · exact Nat.xor_lt_two_pow (by omega) (by omega)
  · omega
theorem sts_lt {n c : Nat} (h : c < 2 ^ 32) : sts n c < 2 ^ 32 := by
  induction n generalizing c with
  | zero => exact h
  | succ n ih => exact ih (stp_lt h)

/-- The table of four steps. -/
def tab4 (r : Nat) : Nat := [0x00000000, 0x105EC76F, 0x20BD8EDE, 0x30E349B1, 0x417B1DBC, 0x5125DAD3, 0x61C69362, 0x7198540D, 0x82F63B78, 0x92A8FC17, 0xA24BB5A6, 0xB21572C9, 0xC38D26C4, 0xD3D3E1AB, 0xE330A81A, 0xF36E6F75].getD r 0

theorem join_xor (q r : Nat) (h : r < 16) : 16 * q + r = (16 * q) ^^^ r := by
  apply Nat.eq_of_testBit_eq
  intro i
  rw [Nat.testBit_xor, show 16 * q + r = 2 ^ 4 * q + r by omega, Nat.testBit_two_pow_mul_add _ (by omega), show 16 * q = 2 ^ 4 * q by omega, Nat.testBit_two_pow_mul]
  by_cases hi : i < 4
  · rw [if_pos hi, show decide (i ≥ 4) = false by simp; omega, Bool.false_and, Bool.false_xor]
  · have : r.testBit i = false := Nat.testBit_lt_two_pow (Nat.lt_of_lt_of_le h (by
      have : 2 ^ 4 ≤ 2 ^ i := Nat.pow_le_pow_right (by omega) (by omega)
      omega))
    simp [hi, this]
    omega

theorem stp_even (m : Nat) : stp (2 * m) = m := by unfold stp; rw [if_neg (by omega)]; omega

theorem four_steps (c : Nat) : sts 4 c = (c / 16) ^^^ tab4 (c % 16) := by
  have h : c = 16 * (c / 16) + c % 16 := by omega
  have hr : c % 16 < 16 := by omega
  generalize c / 16 = q at h
  generalize c % 16 = r at h hr
  subst h
  have h1 : sts 4 (16 * q) = q := by
    show stp (stp (stp (stp (16 * q)))) = q
    rw [show 16 * q = 2 * (2 * (2 * (2 * q))) by omega, stp_even, stp_even, stp_even, stp_even]
  rw [join_xor q r hr, sts_xor, h1]
  congr 1
  have : ∀ r, r < 16 → sts 4 r = tab4 r := by decide
  exact this r hr

theorem tab4_lt (r : Nat) : tab4 r < 2 ^ 32 := by
  by_cases h : r < 16
  · have : ∀ r, r < 16 → tab4 r < 2 ^ 32 := by decide
    exact this r h
  · unfold tab4; rw [List.getD_eq_getElem?_getD, List.getElem?_eq_none (by simp; omega)]; simp

/-- A byte is taken in. -/
def tkn (c b : Nat) : Nat := sts 8 (c ^^^ b)
def upd (c : Nat) (l : List Nat) : Nat := l.foldl tkn c
/-- All 32 bits. -/
def ones : Nat := 0xFFFFFFFF
def crcU (c : Nat) (l : List Nat) : Nat := ones ^^^ upd (ones ^^^ c) l
def crcS (l : List Nat) : Nat := crcU 0 l

theorem eight_steps (c b : Nat) : tkn c b = (((c ^^^ b) / 16 ^^^ tab4 ((c ^^^ b) % 16)) / 16) ^^^ tab4 (((c ^^^ b) / 16 ^^^ tab4 ((c ^^^ b) % 16)) % 16) := by
  unfold tkn
  rw [show 8 = 4 + 4 by rfl, sts_add, four_steps (c ^^^ b), four_steps]

theorem upd_nil (c : Nat) : upd c [] = c := rfl
theorem upd_cons (c b : Nat) (l : List Nat) : upd c (b :: l) = upd (tkn c b) l := rfl
theorem upd_append (c : Nat) (l m : List Nat) : upd c (l ++ m) = upd (upd c l) m := by unfold upd; rw [List.foldl_append]
theorem upd_snoc (c b : Nat) (l : List Nat) : upd c (l ++ [b]) = tkn (upd c l) b := by rw [upd_append]; rfl

theorem tkn_lt {c b : Nat} (hc : c < 2 ^ 32) (hb : b < 256) : tkn c b < 2 ^ 32 := sts_lt (Nat.xor_lt_two_pow hc (by omega))
theorem upd_lt {c : Nat} {l : List Nat} (hc : c < 2 ^ 32) (hl : ∀ x ∈ l, x < 256) : upd c l < 2 ^ 32 := by
  induction l generalizing c with
  | nil => exact hc
  | cons b l ih => exact ih (tkn_lt hc (hl b (by simp))) fun x hx => hl x (by simp [hx])
theorem ones_lt : ones < 2 ^ 32 := by decide
theorem crcU_lt {c : Nat} {l : List Nat} (hc : c < 2 ^ 32) (hl : ∀ x ∈ l, x < 256) : crcU c l < 2 ^ 32 :=
  Nat.xor_lt_two_pow ones_lt (upd_lt (Nat.xor_lt_two_pow ones_lt hc) hl)

theorem ones_ones (c : Nat) : ones ^^^ (ones ^^^ c) = c := by rw [← Nat.xor_assoc, Nat.xor_self, Nat.zero_xor]

/-- The checksum of what follows. -/
theorem crcU_append (c : Nat) (l m : List Nat) : crcU (crcU c l) m = crcU c (l ++ m) := by
  unfold crcU
  rw [ones_ones, upd_append]
theorem crcU_nil (c : Nat) : crcU c [] = c := by unfold crcU; rw [upd_nil, ones_ones]

/-- What taking in bytes makes of a sum. -/
theorem upd_xor (a b : Nat) (l : List Nat) : upd (a ^^^ b) l = sts (8 * l.length) a ^^^ upd b l := by
  induction l generalizing a b with
  | nil => rfl
  | cons x l ih =>
    rw [upd_cons, upd_cons, List.length_cons, Nat.mul_add, Nat.mul_one, Nat.add_comm, sts_add, ← ih]
    unfold tkn
    rw [Nat.xor_assoc, sts_xor]

/-- The checksum of a concatenation. -/
theorem crc_join (l m : List Nat) : crcS (l ++ m) = sts (8 * m.length) (crcS l) ^^^ crcS m := by
  unfold crcS crcU
  rw [Nat.xor_zero, upd_append]
  rw [show upd ones l = (ones ^^^ upd ones l) ^^^ ones by rw [Nat.xor_comm, ones_ones], upd_xor]
  rw [show ones ^^^ (ones ^^^ upd ones l ^^^ ones) = ones ^^^ upd ones l by rw [Nat.xor_comm (ones ^^^ upd ones l), ones_ones]]
  ac_rfl

/-- Three of one length, by exclusive or. -/
def xor3 : List Nat → List Nat → List Nat → List Nat
  | a :: l, b :: m, c :: n => (a ^^^ b ^^^ c) :: xor3 l m n
  | _, _, _ => []
theorem upd_lin (a b c : Nat) (l m n : List Nat) (h1 : l.length = m.length) (h2 : m.length = n.length) : upd (a ^^^ b ^^^ c) (xor3 l m n) = upd a l ^^^ upd b m ^^^ upd c n := by
  induction l generalizing a b c m n with
  | nil =>
    obtain rfl : m = [] := List.eq_nil_of_length_eq_zero (by simp at h1; omega)
    obtain rfl : n = [] := List.eq_nil_of_length_eq_zero (by simp at h2; omega)
    rfl
  | cons x l ih =>
    match m, n, h1, h2 with
    | y :: m, z :: n, h1, h2 =>
      simp only [List.length_cons, Nat.add_right_cancel_iff] at h1 h2
      rw [xor3, upd_cons, upd_cons, upd_cons, upd_cons, ← ih _ _ _ m n h1 h2]
      congr 1
      unfold tkn
      rw [← sts_xor, ← sts_xor]
      congr 1
      ac_rfl
theorem crc_lin (l m n : List Nat) (h1 : l.length = m.length) (h2 : m.length = n.length) : crcS (xor3 l m n) = crcS l ^^^ crcS m ^^^ crcS n := by
  unfold crcS crcU
  rw [Nat.xor_zero]
  have h := upd_lin ones ones ones l m n h1 h2
  rw [Nat.xor_self, Nat.zero_xor] at h
  rw [h, show ones ^^^ upd ones l ^^^ (ones ^^^ upd ones m) ^^^ (ones ^^^ upd ones n) = ones ^^^ (ones ^^^ (ones ^^^ (upd ones l ^^^ upd ones m ^^^ upd ones n))) by ac_rfl, ones_ones]

/-- A product of polynomials, as the program reckons it: n terms. -/
def prd : Nat → Nat → Nat → Nat
  | 0, _, _ => 0
  | n + 1, f, g => (if f.testBit 31 then g else 0) ^^^ prd n (f * 2 % 2 ^ 32) (stp g)

theorem prd_zero (n g : Nat) : prd n 0 g = 0 := by
  induction n generalizing g with
  | zero => rfl
  | succ n ih => rw [prd, Nat.zero_mul, Nat.zero_mod, ih]; simp

theorem prd_sts (n k f g : Nat) : prd n f (sts k g) = sts k (prd n f g) := by
  induction n generalizing f g with
  | zero => rw [prd, prd, sts_zero]
  | succ n ih =>
    rw [prd, prd, ← sts_stp, ih, sts_xor]
    split
    · rfl
    · rw [sts_zero]

theorem stp_pow (i : Nat) : stp (2 ^ (i + 1)) = 2 ^ i := by rw [Nat.pow_succ, Nat.mul_comm, stp_even]

theorem prd_one_aux (n : Nat) : ∀ f, f < 2 ^ 32 → n ≤ 31 → prd (n + 1) f (2 ^ n) = f / 2 ^ (31 - n) := by
  induction n with
  | zero =>
    intro f hf _
    rw [prd, prd, Nat.xor_zero]
    have : f.testBit 31 = decide (f / 2 ^ 31 = 1) := by
      rw [Nat.testBit_eq_decide_div_mod_eq]
      congr 1
      rw [Nat.mod_eq_of_lt (by omega)]
    rw [this]
    simp only [decide_eq_true_eq]
    split <;> omega
  | succ n ih =>
    intro f hf hn
    rw [prd, stp_pow, ih _ (by omega) (by omega)]
    apply Nat.eq_of_testBit_eq
    intro j
    have e : f * 2 = 2 ^ 1 * f := by omega
    rw [Nat.testBit_xor, Nat.testBit_div_two_pow, Nat.testBit_div_two_pow, Nat.testBit_mod_two_pow, e, Nat.testBit_two_pow_mul]
    by_cases h31 : j + (31 - (n + 1)) = 31
    · have hj : n + 1 = j := by omega
      rw [show decide (j + (31 - n) < 32) = false by simp; omega, Bool.false_and, Bool.xor_false, h31]
      split
      · rename_i h; rw [h, Nat.testBit_two_pow]; simp [hj]
      · rename_i h; simp at h; rw [h]; simp
    · have h0 : (if f.testBit 31 = true then 2 ^ (n + 1) else 0).testBit j = false := by
        split
        · rw [Nat.testBit_two_pow]; simp; omega
        · simp
      rw [h0, Bool.false_xor]
      by_cases hb : j + (31 - n) < 32
      · rw [show decide (j + (31 - n) < 32) = true by simp; omega, show decide (j + (31 - n) ≥ 1) = true by simp; omega, Bool.true_and, Bool.true_and]
        congr 1; omega
      · rw [show decide (j + (31 - n) < 32) = false by simp; omega, Bool.false_and]
        symm
        exact Nat.testBit_lt_two_pow (Nat.lt_of_lt_of_le hf (Nat.pow_le_pow_right (by omega) (by omega)))

theorem prd_one {f : Nat} (hf : f < 2 ^ 32) : prd 32 f (2 ^ 31) = f := by
  rw [prd_one_aux 31 f hf (by omega)]; simp

/-- A product by a power is so many steps. -/
theorem prd_pow {f : Nat} (hf : f < 2 ^ 32) (k : Nat) : prd 32 f (sts k (2 ^ 31)) = sts k f := by rw [prd_sts, prd_one hf]

theorem prd_lt {n f g : Nat} (hg : g < 2 ^ 32) : prd n f g < 2 ^ 32 := by
  induction n generalizing f g with
  | zero => show 0 < 2 ^ 32; decide
  | succ n ih =>
    rw [prd]
    refine Nat.xor_lt_two_pow ?_ (ih (stp_lt hg))
    split
    · exact hg
    · decide

theorem eighth_pow : (2 ^ 31 / 256 : Nat) = sts 8 (2 ^ 31) := by decide

/-- Combination, as it is said. -/
def cmb (a b n : Nat) : Nat := sts (8 * n) a ^^^ b
theorem cmb_assoc (x y z n m : Nat) : cmb (cmb x y n) z m = cmb x (cmb y z m) (n + m) := by
  unfold cmb
  rw [sts_xor, Nat.mul_add, sts_add, Nat.xor_assoc]
theorem cmb_crc (l m : List Nat) : cmb (crcS l) (crcS m) m.length = crcS (l ++ m) := (crc_join l m).symm
/-- Four bytes of a number, the lowest first; and the number that they stand for. -/
def le4 (n : Nat) : List Nat := [n % 256, n / 256 % 256, n / 65536 % 256, n / 16777216 % 256]
def de4 (b : List Nat) : Nat := b.getD 0 0 + 256 * b.getD 1 0 + 65536 * b.getD 2 0 + 16777216 * b.getD 3 0

theorem le4_length (n : Nat) : (le4 n).length = 4 := rfl
theorem le4_byte (n : Nat) : ∀ x ∈ le4 n, x < 256 := by
  intro x hx
  simp [le4] at hx
  omega
theorem de4_le4 {n : Nat} (h : n < 2 ^ 32) (t : List Nat) : de4 (le4 n ++ t) = n := by
  simp [de4, le4]; omega
theorem de4_lt {b : List Nat} (h : ∀ x ∈ b, x < 256) : de4 b < 2 ^ 32 := by
  have hg : ∀ i, b.getD i 0 < 256 := fun i => by
    by_cases hi : i < b.length
    · rw [List.getD_eq_getElem?_getD, List.getElem?_eq_getElem hi]; exact h _ (List.getElem_mem hi)
    · rw [List.getD_eq_getElem?_getD, List.getElem?_eq_none (by omega)]; simp
  have h0 := hg 0; have h1 := hg 1; have h2 := hg 2; have h3 := hg 3
  unfold de4; omega
theorem le4_de4 {b : List Nat} (h : ∀ x ∈ b, x < 256) (hl : 4 ≤ b.length) : le4 (de4 b) = b.take 4 := by
  match b, hl with
  | a :: c :: d :: e :: t, _ =>
    have h0 := h a (by simp); have h1 := h c (by simp); have h2 := h d (by simp); have h3 := h e (by simp)
    simp [de4, le4]; omega

def frameS (p : List Nat) : List Nat := le4 p.length ++ (le4 (crcU (crcS (le4 p.length)) p) ++ p)
theorem frameS_length (p : List Nat) : (frameS p).length = 8 + p.length := by simp [frameS, le4]; omega

/-- The length of the frame at the beginning of b; 0: there is none. -/
def nextS (b : List Nat) : Nat :=
  if b.length < 8 then 0 else if 9000 < de4 b ∨ b.length - 8 < de4 b then 0 else
  if de4 (b.drop 4) ≠ crcU (crcS (b.take 4)) ((b.drop 8).take (de4 b)) then 0 else 8 + de4 b

theorem frameS_byte {p : List Nat} (hp : ∀ x ∈ p, x < 256) : ∀ x ∈ frameS p, x < 256 := by
  intro x hx
  simp only [frameS, List.mem_append] at hx
  rcases hx with hx | hx | hx
  · exact le4_byte _ x hx
  · exact le4_byte _ x hx
  · exact hp x hx

theorem nextS_frame {p : List Nat} (hp : ∀ x ∈ p, x < 256) (hl : p.length ≤ 9000) (t : List Nat) : nextS (frameS p ++ t) = 8 + p.length := by
  have e1 : de4 (frameS p ++ t) = p.length := by rw [frameS, List.append_assoc, de4_le4 (by omega)]
  have hc : crcU (crcS (le4 p.length)) p < 2 ^ 32 := crcU_lt (crcU_lt (by omega) (le4_byte _)) hp
  have e2 : (frameS p ++ t).drop 4 = le4 (crcU (crcS (le4 p.length)) p) ++ (p ++ t) := by rw [frameS, List.append_assoc, List.drop_append_of_le_length (by simp [le4]), List.append_assoc]; rfl
  have e3 : (frameS p ++ t).take 4 = le4 p.length := by rw [frameS, List.append_assoc, List.take_append_of_le_length (by simp [le4])]; rfl
  have e4 : ((frameS p ++ t).drop 8).take p.length = p := by
    rw [frameS, ← List.append_assoc, List.append_assoc, List.drop_append_of_le_length (by simp [le4])]
    rw [show (le4 p.length ++ le4 (crcU (crcS (le4 p.length)) p)).drop 8 = [] from rfl, List.nil_append, List.take_left']
    rfl
  unfold nextS
  rw [if_neg (by simp [frameS_length]; omega), e1, if_neg (by simp [frameS_length]; omega), e2, e3, e4, de4_le4 hc, if_neg (by simp)]

theorem nextS_cut {p : List Nat} (hl : p.length ≤ 9000) {m : Nat} (hm : m < 8 + p.length) : nextS ((frameS p).take m) = 0 := by
  unfold nextS
  by_cases h : m < 8
  · rw [if_pos (by simp [frameS_length]; omega)]
  · have e1 : de4 ((frameS p).take m) = p.length := by
      have : (frameS p).take m = le4 p.length ++ ((le4 (crcU (crcS (le4 p.length)) p) ++ p).take (m - 4)) := by
        rw [frameS, List.take_append, List.take_of_length_le (by rw [le4_length]; omega), le4_length]
      rw [this, de4_le4 (by omega)]
    rw [if_neg (by simp [frameS_length]; omega), e1, if_pos (by simp [frameS_length]; omega)]

theorem nextS_le (b : List Nat) : nextS b ≤ b.length := by
  unfold nextS
  split
  · omega
  · split
    · omega
    · split
      · omega
      · omega
theorem nextS_8 (b : List Nat) (h : nextS b ≠ 0) : 8 ≤ nextS b ∧ nextS b = 8 + de4 b := by
  unfold nextS at h ⊢
  split at h
  · omega
  · split at h
    · omega
    · split at h
      · omega
      · rename_i h1 h2 h3
        rw [if_neg h1, if_neg h2, if_neg h3]; omega

/-- A frame that is found is the frame of its payload. -/
theorem nextS_is {b : List Nat} (hb : ∀ x ∈ b, x < 256) (h : nextS b ≠ 0) : b.take (nextS b) = frameS ((b.drop 8).take (de4 b)) := by
  have h8 := nextS_8 b h
  have hle := nextS_le b
  unfold nextS at h
  split at h
  · omega
  · split at h
    · omega
    · split at h
      · omega
      · rename_i h1 h2 h3
        simp only [ne_eq, Decidable.not_not] at h3
        have hd : ∀ x ∈ b.drop 4, x < 256 := fun x hx => hb x (List.mem_of_mem_drop hx)
        have hlen : ((b.drop 8).take (de4 b)).length = de4 b := by simp; omega
        rw [frameS, hlen, le4_de4 hb (by omega), ← h3, le4_de4 hd (by simp; omega), h8.2]
        rw [show 8 + de4 b = 4 + (4 + de4 b) by omega, List.take_add, List.take_add (l := b.drop 4), List.drop_drop]

/-- The lengths of the frames at the beginning. -/
def scanS : Nat → List Nat → List Nat
  | 0, _ => []
  | n + 1, b => if nextS b = 0 then [] else nextS b :: scanS n (b.drop (nextS b))

end Go.Proofs.YtdmnanocmpkhjaaDoor
