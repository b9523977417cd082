/-
  arbac/crc: Update, Sum, step, product, Combine; and the reference's step, Take, Update, Sum, Combine: each returns what the plain mathematics says.
-/
import Derived.Test.YtnjmffmdlaobdacDoorCore
import Derived.Test.YtnjmffmdlaobdacDoorCrcM
import Derived.Test.YtnjmffmdlaobdacDoorRows
import Derived.Outline
import Derived.WalkLawsBesides
import Derived.WalkSpells
import Derived.BigQuiet
import Derived.IntWalk
import Derived.Laws.BitsAllLaws
import Derived.Deep.LoopGhost
namespace Go.Proofs.YtnjmffmdlaobdacDoor
open Go.RowKit

/-- The table of four steps lies in its variable. -/
structure Tab (w : World) : Prop where
  lt : 0 < w.heap.size
  cell : ∀ i, i < 16 → w.cell? ⟨0, i, none⟩ = some (.int .u32 (tab4 i : Nat))

theorem Tab.kept {S : Nat → Prop} {a b : World} (h : Tab a) (hk : Kept S a b) (hn : ¬ S 0) : Tab b :=
  ⟨Nat.lt_of_lt_of_le h.lt hk.size, fun i hi => (hk.cell (p := ⟨_, i, none⟩) h.lt hn).trans (h.cell i hi)⟩

theorem ret_int {k : IntKind} {a b : Int} (h : a = b) : Ending.returned (.int k a) = .returned (.int k b) := by rw [h]

theorem and15 (c : Nat) (hc : c < 2 ^ 32) : bits .and .u32 (c : Int) 15 = ((c % 16 : Nat) : Int) := by
  rw [show (15 : Int) = ((15 : Nat) : Int) from rfl, u32_and_nat _ _ (by omega) (by omega)]
  congr 1
  exact Nat.and_two_pow_sub_one_eq_mod c 4
theorem and1 (c : Nat) (hc : c < 2 ^ 32) : bits .and .u32 (c : Int) 1 = ((c % 2 : Nat) : Int) := by
  rw [show (1 : Int) = ((1 : Nat) : Int) from rfl, u32_and_nat _ _ (by omega) (by omega)]
  congr 1
  exact Nat.and_two_pow_sub_one_eq_mod c 1
theorem xor32 (a b y : Nat) (ha : a < 2 ^ 32) (hb : b < 2 ^ 32) (h : y = a ^^^ b) : bits .xor .u32 (a : Int) (b : Int) = (y : Int) := by
  rw [u32_xor_nat _ _ (by omega) (by omega), h]

set_option maxRecDepth 100000 in
set_option maxHeartbeats 400000 in
theorem step_any (c : Nat) (hc : c < 2 ^ 32) (w : World) : Calls Tryd.prog 59 #[.int .u32 c] w fun e w' => e = .returned (.int .u32 (stp c : Nat)) ∧ w = w' := by
  have h1 := and1 c hc
  unfold stp
  by_cases h : c % 2 = 1
  · rw [if_pos h]
    rw [h] at h1
    have hx := xor32 (c / 2) 2197175160 _ (by omega) (by omega) rfl
    rw [show ((c / 2 : Nat) : Int) = (c : Int) / 2 by omega] at hx
    generalize (c / 2 ^^^ 2197175160 : Nat) = y at hx ⊢
    clear h
    go_enter Tryd.func59, Tryd.ntmps59
    go_wp2_with fail
    go_ret
    exact ⟨ret_int hx, rfl⟩
  · rw [if_neg h]
    rw [show c % 2 = 0 by omega] at h1
    clear h
    go_enter Tryd.func59, Tryd.ntmps59
    go_wp2_with fail
    go_ret
    exact ⟨ret_int (by omega), rfl⟩

set_option maxRecDepth 100000 in
set_option maxHeartbeats 400000 in
theorem rstep_any (c : Nat) (hc : c < 2 ^ 32) (w : World) : Calls Tryd.prog 60 #[.int .u32 c] w fun e w' => e = .returned (.int .u32 (stp c : Nat)) ∧ w = w' := by
  unfold stp
  by_cases h : c % 2 = 1
  · rw [if_pos h]
    have hx := xor32 (c / 2) 2197175160 _ (by omega) (by omega) rfl
    rw [show ((c / 2 : Nat) : Int) = (c : Int) / 2 by omega] at hx
    generalize (c / 2 ^^^ 2197175160 : Nat) = y at hx ⊢
    have h1 : (c : Int) % 2 = 1 := by omega
    clear h
    go_enter Tryd.func60, Tryd.ntmps60
    go_wp2_with fail
    go_ret
    exact ⟨ret_int hx, rfl⟩
  · rw [if_neg h]
    have h1 : (c : Int) % 2 = 0 := by omega
    clear h
    go_enter Tryd.func60, Tryd.ntmps60
    go_wp2_with fail
    go_ret
    exact ⟨ret_int (by omega), rfl⟩

set_option maxRecDepth 100000 in
set_option maxHeartbeats 400000 in
theorem take_any4 (c b : Nat) (hc : c < 2 ^ 32) (hb : b < 256) (w : World) : Calls Tryd.prog 35 #[.int .u32 c, .int .u8 b] w fun e w' => e = .returned (.int .u32 (tkn c b : Nat)) ∧ w = w' := by
  have hw : IntKind.u32.wrap (b : Int) = (b : Int) := IntWalk.u32_in _ (by omega)
  obtain ⟨y, hy⟩ : ∃ y, y = c ^^^ b := ⟨_, rfl⟩
  have hx := xor32 c b y (by omega) (by omega) hy
  have hyl : y < 2 ^ 32 := by rw [hy]; exact Nat.xor_lt_two_pow hc (by omega)
  unfold tkn
  rw [← hy]
  clear hy
  go_enter Tryd.func35, Tryd.ntmps35
  go_wp2_with fail
  go_loop [0, 5] (fun v i => ∃ k : Nat, k ≤ 8 ∧ i = .int .i64 k ∧ v = .int .u32 (sts k y : Nat)) (fun _ i => 8 - (intOf i).toNat)
  case atStart => exact ⟨0, Nat.zero_le _, rfl, rfl⟩
  case round =>
    obtain ⟨k, hk, rfl, rfl⟩ := hrel
    by_cases hlt : k < 8
    · go_wp2_with fail
      refine (rstep_any (sts k y) (sts_lt hyl) _).mono ?_
      rintro e w' ⟨rfl, rfl⟩
      rw [← sts_stp, ← sts]
      go_wp2_with fail
      go_round
      case rel => exact ⟨k + 1, by omega, by go_num, rfl⟩
      case measure => simp [intOf]; omega
    · obtain rfl : k = 8 := by omega
      go_wp2_with fail
      go_ret
      exact ⟨rfl, rfl⟩

theorem neg32 (c : Nat) (hc : c < 2 ^ 32) : bits .xor .u32 IntKind.u32.max (c : Int) = ((ones ^^^ c : Nat) : Int) :=
  u32_xor_nat 4294967295 c (by omega) (by omega)

theorem getD_byte {xs : List Nat} (h : ∀ x ∈ xs, x < 256) (i : Nat) : xs.getD i 0 < 256 := by
  by_cases hi : i < xs.length
  · rw [List.getD_eq_getElem?_getD, List.getElem?_eq_getElem hi]; exact h _ (List.getElem_mem hi)
  · rw [List.getD_eq_getElem?_getD, List.getElem?_eq_none (by omega)]; simp
theorem take_snoc (xs : List Nat) (k : Nat) (h : k < xs.length) : xs.take (k + 1) = xs.take k ++ [xs.getD k 0] := by
  rw [List.take_succ_eq_append_getElem h]; simp [List.getD, h]

/-- A slice that reads as bytes has a form. -/
theorem Reads.form {w : World} {p : Value} {xs : List Nat} (hp : Reads w p xs) : ∃ a c, p = .slice a xs.length c := by
  rcases hp with ⟨rfl, rfl⟩ | ⟨g, off, cap, rfl, _⟩
  · exact ⟨_, _, rfl⟩
  · exact ⟨_, _, rfl⟩
/-- The cell of a byte. -/
theorem Reads.at {w : World} {a : Option Addr} {n c k : Nat} {xs : List Nat} (hp : Reads w (.slice a n c) xs) (hk : k < xs.length) :
    ∃ g off, a = some ⟨g, off, none⟩ ∧ xs.length ≤ maxLen ∧ w.cell? ⟨g, off + k, none⟩ = some (.int .u8 (xs.getD k 0 : Nat)) := by
  rcases hp with ⟨h, rfl⟩ | ⟨g, off, cap, h, h1, h2, _, h3⟩
  · simp at hk
  · cases h; exact ⟨g, off, rfl, by omega, h3 k hk⟩
theorem Reads.le {w : World} {v : Value} {xs : List Nat} (hp : Reads w v xs) : xs.length ≤ maxLen := by
  rcases hp with ⟨h, rfl⟩ | ⟨g, off, cap, h, h1, h2, _, h3⟩
  · simp
  · omega

set_option maxRecDepth 100000 in
set_option maxHeartbeats 400000 in
theorem update_any (c : Nat) (p : Value) (xs : List Nat) (w : World) (hc : c < 2 ^ 32) (hp : Reads w p xs) (hb : ∀ x ∈ xs, x < 256) (hT : Tab w) :
    Calls Tryd.prog 36 #[.int .u32 c, p] w fun e w' => e = .returned (.int .u32 (crcU c xs : Nat)) ∧ w = w' := by
  obtain ⟨a, cc, hform⟩ := hp.form
  have hm := hp.le
  unfold maxLen at hm
  have HP := Lib.hid hp; clear hp
  have HT := Lib.hid hT; clear hT
  have HB := Lib.hid hb; clear hb
  subst hform
  have hn := neg32 c hc
  unfold crcU
  have hul : ∀ k, upd (ones ^^^ c) (xs.take k) < 2 ^ 32 := fun k => upd_lt (Nat.xor_lt_two_pow ones_lt hc) fun x hx => HB.out x (List.mem_of_mem_take hx)
  have HU := Lib.hid hul; clear hul
  generalize (ones ^^^ c : Nat) = c0 at hn HU ⊢
  go_enter Tryd.func36, Tryd.ntmps36
  go_wp2_with fail
  clear hn
  go_loop [0, 11] (fun v i => ∃ k : Nat, k ≤ xs.length ∧ i = .int .i64 k ∧ v = .int .u32 (upd c0 (xs.take k) : Nat)) (fun _ i => xs.length - (intOf i).toNat)
  case atStart => exact ⟨0, Nat.zero_le _, rfl, rfl⟩
  case round =>
    obtain ⟨k, hk, rfl, rfl⟩ := hrel
    have hcl := HU.out k
    by_cases hlt : k < xs.length
    · obtain ⟨g, off, rfl, _, hcell⟩ := HP.out.at hlt
      have hs : upd c0 (xs.take (k + 1)) = tkn (upd c0 (xs.take k)) (xs.getD k 0) := by rw [take_snoc xs k hlt, upd_snoc]
      have HS := Lib.hid hs; clear hs
      have hbb := getD_byte HB.out k
      generalize xs.getD k 0 = b at hcell HS hbb
      generalize upd c0 (xs.take k) = u at hcl HS ⊢
      have hw : IntKind.u32.wrap (b : Int) = (b : Int) := IntWalk.u32_in _ (by omega)
      obtain ⟨y, hy⟩ : ∃ y, y = u ^^^ b := ⟨_, rfl⟩
      have hyl : y < 2 ^ 32 := by rw [hy]; exact Nat.xor_lt_two_pow hcl (by omega)
      have h1 := xor32 u b y (by omega) (by omega) hy
      have h2 := and15 y hyl
      obtain ⟨r, hr⟩ : ∃ r, r = y % 16 := ⟨_, rfl⟩
      rw [← hr] at h2
      have ht := HT.out.cell r (by omega)
      obtain ⟨z, hz⟩ : ∃ z, z = y / 16 ^^^ tab4 r := ⟨_, rfl⟩
      have hzl : z < 2 ^ 32 := by rw [hz]; exact Nat.xor_lt_two_pow (by omega) (tab4_lt _)
      have h3 := xor32 (y / 16) (tab4 r) z (by omega) (tab4_lt _) hz
      rw [show ((y / 16 : Nat) : Int) = (y : Int) / 16 by omega] at h3
      have h4 := and15 z hzl
      obtain ⟨q, hq⟩ : ∃ q, q = z % 16 := ⟨_, rfl⟩
      rw [← hq] at h4
      have ht2 := HT.out.cell q (by omega)
      obtain ⟨x, hx⟩ : ∃ x, x = z / 16 ^^^ tab4 q := ⟨_, rfl⟩
      have h5 := xor32 (z / 16) (tab4 q) x (by omega) (tab4_lt _) hx
      rw [show ((z / 16 : Nat) : Int) = (z : Int) / 16 by omega] at h5
      have hfin : tkn u b = x := by rw [eight_steps, ← hy, ← hr, ← hz, ← hq, ← hx]
      have hr16 : r < 16 := by omega
      have hq16 : q < 16 := by omega
      have HF := Lib.hid hfin; clear hfin hx hq hz hr hy
      have hr1 : (r : Int) < 16 := by omega
      have hq1 : (q : Int) < 16 := by omega
      have hlt' : (k : Int) < xs.length := by omega
      go_wp2_with fail
      go_round
      case rel => exact ⟨k + 1, by omega, by go_num, by rw [HS.out, HF.out]⟩
      case measure => simp [intOf]; omega
    · obtain rfl : k = xs.length := by omega
      rw [List.take_length] at hcl ⊢
      have hn := neg32 _ hcl
      obtain ⟨u2, hu2⟩ : ∃ u2, u2 = ones ^^^ upd c0 xs := ⟨_, rfl⟩
      rw [← hu2] at hn
      have HU2 := Lib.hid hu2; clear hu2
      go_wp2_with fail
      go_ret
      exact ⟨ret_int (by rw [← HU2.out]), rfl⟩

theorem sum_any (p : Value) (xs : List Nat) (w : World) (hp : Reads w p xs) (hb : ∀ x ∈ xs, x < 256) (hT : Tab w) :
    Calls Tryd.prog 15 #[p] w fun e w' => e = .returned (.int .u32 (crcS xs : Nat)) ∧ w = w' := by
  obtain ⟨a, cc, hform⟩ := hp.form
  have HP := Lib.hid hp; clear hp
  have HT := Lib.hid hT; clear hT
  have HB := Lib.hid hb; clear hb
  subst hform
  go_enter Tryd.func15, Tryd.ntmps15
  go_wp2_with fail
  refine (update_any 0 _ xs w (by decide) HP.out HB.out HT.out).mono ?_
  rintro e w' ⟨rfl, rfl⟩
  go_wp2_with fail
  go_ret
  exact ⟨rfl, rfl⟩

theorem andTop (f : Nat) (hf : f < 2 ^ 32) : bits .and .u32 (f : Int) 2147483648 = if f.testBit 31 then 2147483648 else 0 := by
  rw [show (2147483648 : Int) = ((2147483648 : Nat) : Int) from rfl, u32_and_nat _ _ (by omega) (by omega)]
  have : f &&& 2147483648 = if f.testBit 31 then 2147483648 else 0 := by
    apply Nat.eq_of_testBit_eq
    intro i
    rw [Nat.testBit_and, show 2147483648 = 2 ^ 31 from rfl, Nat.testBit_two_pow]
    by_cases hi : 31 = i
    · subst hi
      by_cases h : f.testBit 31
      · rw [h, if_pos rfl]; rfl
      · simp [h]
    · split
      · rw [Nat.testBit_two_pow]; simp [hi]
      · simp [hi]
  rw [this]
  split <;> rfl

theorem dbl32 (f f2 : Nat) (h : f2 = f * 2 % 2 ^ 32) : IntKind.u32.wrap ((f : Int) * 2) = (f2 : Int) := by
  rw [IntKind.wrap_u32', h]; omega

set_option maxRecDepth 100000 in
set_option maxHeartbeats 400000 in
theorem product_any (f g : Nat) (w : World) (hf : f < 2 ^ 32) (hg : g < 2 ^ 32) :
    Calls Tryd.prog 34 #[.int .u32 f, .int .u32 g] w fun e w' => e = .returned (.int .u32 (prd 32 f g : Nat)) ∧ w = w' := by
  go_enter Tryd.func34, Tryd.ntmps34
  go_wp2_with fail
  go_loopg [0, 1, 5] 32 (fun n v u s wr => wr = w ∧ ∃ f1 g1 s1 : Nat, f1 < 2 ^ 32 ∧ f1 * 2 ^ n % 2 ^ 32 = 0 ∧ g1 < 2 ^ 32 ∧ s1 < 2 ^ 32 ∧ v = .int .u32 f1 ∧ u = .int .u32 g1 ∧ s = .int .u32 s1 ∧ s1 ^^^ prd n f1 g1 = prd 32 f g)
  case atStart =>
    exact ⟨rfl, f, g, 0, hf, by simp, hg, by decide, rfl, rfl, rfl, by rw [Nat.zero_xor]⟩
  case round =>
    obtain ⟨rfl, f1, g1, s1, hf1, hz, hg1, hs1, rfl, rfl, rfl, he⟩ := hrel
    have HE := Lib.hid he; clear he
    have HZ := Lib.hid hz; clear hz
    by_cases h0 : f1 = 0
    · subst h0
      have he := HE.out
      rw [prd_zero, Nat.xor_zero] at he
      have HE2 := Lib.hid he; clear he
      go_wp2_with fail
      go_ret
      exact ⟨ret_int (by rw [HE2.out]), rfl⟩
    · obtain ⟨n, hn⟩ : ∃ n, gk = n + 1 := by
        cases gk with
        | zero => have := HZ.out; simp at this; omega
        | succ n => exact ⟨n, rfl⟩
      have HN := Lib.hid hn; clear hn
      have h0b : ((f1 : Int) == 0) = false := by simp; omega
      obtain ⟨f2, hf2⟩ : ∃ f2, f2 = f1 * 2 % 2 ^ 32 := ⟨_, rfl⟩
      have hd := dbl32 f1 f2 hf2
      have HF2 := Lib.hid hf2; clear hf2
      have ha := andTop f1 hf1
      have hz2 : f2 * 2 ^ n % 2 ^ 32 = 0 := by
        have := HZ.out
        rw [HN.out, Nat.pow_succ, Nat.mul_comm (2 ^ n), ← Nat.mul_assoc] at this
        rw [HF2.out, Nat.mod_mul_mod]; exact this
      have HZ2 := Lib.hid hz2; clear hz2
      obtain ⟨g2, hg2⟩ : ∃ g2, g2 = stp g1 := ⟨_, rfl⟩
      have HG2 := Lib.hid hg2; clear hg2
      by_cases hb : f1.testBit 31
      · rw [if_pos hb] at ha
        obtain ⟨s2, hs2⟩ : ∃ s2, s2 = s1 ^^^ g1 := ⟨_, rfl⟩
        have hx := xor32 s1 g1 s2 hs1 hg1 hs2
        have HS2 := Lib.hid hs2; clear hs2
        have HB := Lib.hid hb; clear hb
        go_wp2_with fail
        refine (step_any g1 hg1 _).mono ?_
        rintro e w' ⟨rfl, rfl⟩
        rw [← HG2.out]
        go_wp2_with fail
        go_roundg n
        case measure => have := HN.out; omega
        case rel =>
          refine ⟨rfl, f2, g2, s2, by rw [HF2.out]; omega, HZ2.out, by rw [HG2.out]; exact stp_lt hg1, by rw [HS2.out]; exact Nat.xor_lt_two_pow hs1 hg1, rfl, rfl, rfl, ?_⟩
          rw [← HE.out, HN.out, prd, if_pos HB.out, ← HF2.out, ← HG2.out, HS2.out, Nat.xor_assoc]
      · rw [if_neg hb] at ha
        have HB := Lib.hid hb; clear hb
        go_wp2_with fail
        refine (step_any g1 hg1 _).mono ?_
        rintro e w' ⟨rfl, rfl⟩
        rw [← HG2.out]
        go_wp2_with fail
        go_roundg n
        case measure => have := HN.out; omega
        case rel =>
          refine ⟨rfl, f2, g2, s1, by rw [HF2.out]; omega, HZ2.out, by rw [HG2.out]; exact stp_lt hg1, hs1, rfl, rfl, rfl, ?_⟩
          rw [← HE.out, HN.out, prd, if_neg HB.out, ← HF2.out, ← HG2.out, Nat.zero_xor]

theorem and1i (n : Nat) (hn : n < 2 ^ 63) : bits .and .i64 (n : Int) 1 = ((n % 2 : Nat) : Int) := by
  show IntKind.i64.wrap ((BitVec.ofInt 64 (n : Int) &&& BitVec.ofInt 64 ((1 : Nat) : Int)).toNat : Int) = _
  have e : n &&& 1 = n % 2 := Nat.and_two_pow_sub_one_eq_mod n 1
  rw [BitVec.toNat_and, ofInt_u64 n (by omega), ofInt_u64 1 (by omega), e, IntWalk.i64_in _ (by omega)]

set_option maxRecDepth 100000 in
set_option maxHeartbeats 800000 in
theorem combine_pos (a b n : Nat) (w : World) (ha : a < 2 ^ 32) (hb : b < 2 ^ 32) (hn : n < 2 ^ 63) :
    Calls Tryd.prog 12 #[.int .u32 a, .int .u32 b, .int .i64 n] w fun e w' => e = .returned (.int .u32 (cmb a b n : Nat)) ∧ w = w' := by
  go_enter Tryd.func12, Tryd.ntmps12
  go_wp2_with fail
  have h0 : (8388608 : Nat) = sts (8 * 1) (2 ^ 31) := by decide
  have H0 := Lib.hid h0; clear h0
  have HN := Lib.hid hn; clear hn
  go_loopg [0, 2, 7] n (fun m v u s wr => wr = w ∧ ∃ a1 p1 j : Nat, m < 2 ^ 63 ∧ a1 < 2 ^ 32 ∧ p1 < 2 ^ 32 ∧ v = .int .u32 a1 ∧ u = .int .i64 m ∧ s = .int .u32 p1 ∧ p1 = sts (8 * j) (2 ^ 31) ∧ sts (8 * (m * j)) a1 = sts (8 * n) a)
  case atStart => exact ⟨rfl, a, 8388608, 1, HN.out, ha, by omega, rfl, rfl, rfl, H0.out, by rw [Nat.mul_one]⟩
  case round =>
    obtain ⟨rfl, a1, p1, j, hm, ha1, hp1, rfl, rfl, rfl, hp, he⟩ := hrel
    have HE := Lib.hid he; clear he
    have HP := Lib.hid hp; clear hp
    by_cases h0 : gk = 0
    · subst h0
      have he := HE.out
      rw [Nat.zero_mul, Nat.mul_zero, sts] at he
      obtain ⟨y, hy⟩ : ∃ y, y = a1 ^^^ b := ⟨_, rfl⟩
      have hx := xor32 a1 b y ha1 hb hy
      have HF := Lib.hid (show cmb a b n = y by rw [cmb, ← he, hy])
      clear he hy
      go_wp2_with fail
      go_ret
      exact ⟨ret_int (by rw [HF.out]), rfl⟩
    · have h1 := and1i gk hm
      have hpos : (0 : Int) < (gk : Int) := by omega
      have hsq : prd 32 p1 p1 = sts (8 * (2 * j)) (2 ^ 31) := by
        conv => lhs; arg 3; rw [HP.out]
        rw [prd_pow hp1, HP.out, ← sts_add]
        congr 1; omega
      obtain ⟨p2, hp2⟩ : ∃ p2, p2 = prd 32 p1 p1 := ⟨_, rfl⟩
      have hp2l : p2 < 2 ^ 32 := by rw [hp2]; exact prd_lt hp1
      rw [← hp2] at hsq
      have HSQ := Lib.hid hsq; clear hsq
      have HP2 := Lib.hid hp2; clear hp2
      by_cases hod : gk % 2 = 1
      · rw [hod] at h1
        obtain ⟨a2, ha2⟩ : ∃ a2, a2 = prd 32 a1 p1 := ⟨_, rfl⟩
        have ha2l : a2 < 2 ^ 32 := by rw [ha2]; exact prd_lt hp1
        have hs2 : a2 = sts (8 * j) a1 := by rw [ha2, HP.out, prd_pow ha1]
        have HA2 := Lib.hid ha2; clear ha2
        have HS2 := Lib.hid hs2; clear hs2
        have HOD := Lib.hid hod; clear hod
        go_wp2_with fail
        refine (product_any a1 p1 _ ha1 hp1).mono ?_
        rintro e w' ⟨rfl, rfl⟩
        rw [← HA2.out]
        go_wp2_with fail
        refine (product_any p1 p1 _ hp1 hp1).mono ?_
        rintro e w' ⟨rfl, rfl⟩
        rw [← HP2.out]
        go_wp2_with fail
        go_roundg (gk / 2)
        case measure => omega
        case rel =>
          refine ⟨rfl, a2, p2, 2 * j, by omega, ha2l, hp2l, rfl, by go_num, rfl, HSQ.out, ?_⟩
          rw [← HE.out, HS2.out, ← sts_add]
          congr 1
          have := HOD.out
          have e : gk = 2 * (gk / 2) + 1 := by omega
          generalize gk / 2 = h at e ⊢
          subst e
          rw [Nat.add_mul, Nat.one_mul, ← Nat.mul_assoc h 2 j, Nat.mul_comm h 2]; omega
      · rw [show gk % 2 = 0 by omega] at h1
        have HOD := Lib.hid hod; clear hod
        go_wp2_with fail
        refine (product_any p1 p1 _ hp1 hp1).mono ?_
        rintro e w' ⟨rfl, rfl⟩
        rw [← HP2.out]
        go_wp2_with fail
        go_roundg (gk / 2)
        case measure => omega
        case rel =>
          refine ⟨rfl, a1, p2, 2 * j, by omega, ha1, hp2l, rfl, by go_num, rfl, HSQ.out, ?_⟩
          rw [← HE.out]
          congr 1
          have := HOD.out
          have e : gk = 2 * (gk / 2) := by omega
          generalize gk / 2 = h at e ⊢
          subst e
          rw [← Nat.mul_assoc h 2 j, Nat.mul_comm h 2]

set_option maxRecDepth 100000 in
set_option maxHeartbeats 400000 in
theorem combine_neg (a b : Nat) (n : Int) (w : World) (ha : a < 2 ^ 32) (hb : b < 2 ^ 32) (hn : n ≤ 0) :
    Calls Tryd.prog 12 #[.int .u32 a, .int .u32 b, .int .i64 n] w fun e w' => e = .returned (.int .u32 (cmb a b 0 : Nat)) ∧ w = w' := by
  obtain ⟨y, hy⟩ : ∃ y, y = a ^^^ b := ⟨_, rfl⟩
  have hx := xor32 a b y ha hb hy
  have HF := Lib.hid (show cmb a b 0 = y by rw [cmb, hy]; rfl)
  clear hy
  have hn' : ¬ 0 < n := by omega
  go_enter Tryd.func12, Tryd.ntmps12
  go_wp2_with fail
  refine wp_loop_rounds 1 ?_
  rw [rounds_succ]
  go_wp2_with fail
  go_ret
  exact ⟨ret_int (by rw [HF.out]), rfl⟩
end Go.Proofs.YtnjmffmdlaobdacDoor
