/-
  arbac/crc: Update, Sum; the reference's step, Take: each returns what the plain mathematics says.
-/
import Derived.Test.YtncieckanngodaaDoorCore
import Derived.Test.YtncieckanngodaaDoorCrcM
import Derived.Test.YtncieckanngodaaDoorRows
import Derived.Outline
import Derived.WalkLawsBesides
import Derived.WalkSpells
import Derived.BigQuiet
import Derived.IntWalk
import Derived.Laws.BitsAllLaws
import Derived.Deep.LoopGhost
namespace Go.Proofs.YtncieckanngodaaDoor
open Go.RowKit

/-- The table of four steps lies in its variable. -/
structure Tab (w : World) : Prop where
  lt : 0 < w.heap.size
  cell : ∀ i, i < 16 → w.cell? ⟨0, i, none⟩ = some (.int .u32 (tab4 i : Nat))

theorem Tab.kept {S : Nat → Prop} {a b : World} (h : Tab a) (hk : Kept S a b) (hn : ¬ S 0) : Tab b :=
  ⟨Nat.lt_of_lt_of_le h.lt hk.size, fun i hi => (hk.cell (p := ⟨_, i, none⟩) h.lt hn).trans (h.cell i hi)⟩

theorem ret_int {k : IntKind} {a b : Int} (h : a = b) : Ending.returned (.int k a) = .returned (.int k b) := by rw [h]

theorem and15 (c : Nat) (hc : c < 2 ^ 32) : bits .and .u32 (c : Int) 15 = ((c % 16 : Nat) : Int) := by
  rw [show (15 : Int) = ((15 : Nat) : Int) from rfl, u32_and_nat _ _ (by omega) (by omega)]
  congr 1
  exact Nat.and_two_pow_sub_one_eq_mod c 4
theorem and1 (c : Nat) (hc : c < 2 ^ 32) : bits .and .u32 (c : Int) 1 = ((c % 2 : Nat) : Int) := by
  rw [show (1 : Int) = ((1 : Nat) : Int) from rfl, u32_and_nat _ _ (by omega) (by omega)]
  congr 1
  exact Nat.and_two_pow_sub_one_eq_mod c 1
theorem xor32 (a b y : Nat) (ha : a < 2 ^ 32) (hb : b < 2 ^ 32) (h : y = a ^^^ b) : bits .xor .u32 (a : Int) (b : Int) = (y : Int) := by
  rw [u32_xor_nat _ _ (by omega) (by omega), h]

theorem neg32 (c : Nat) (hc : c < 2 ^ 32) : bits .xor .u32 IntKind.u32.max (c : Int) = ((ones ^^^ c : Nat) : Int) :=
  u32_xor_nat 4294967295 c (by omega) (by omega)

theorem getD_byte {xs : List Nat} (h : ∀ x ∈ xs, x < 256) (i : Nat) : xs.getD i 0 < 256 := by
  by_cases hi : i < xs.length
  · rw [List.getD_eq_getElem?_getD, List.getElem?_eq_getElem hi]; exact h _ (List.getElem_mem hi)
  · rw [List.getD_eq_getElem?_getD, List.getElem?_eq_none (by omega)]; simp
theorem take_snoc (xs : List Nat) (k : Nat) (h : k < xs.length) : xs.take (k + 1) = xs.take k ++ [xs.getD k 0] := by
  rw [List.take_succ_eq_append_getElem h]; simp [List.getD, h]

/-- A slice that reads as bytes has a form. -/
theorem Reads.form {w : World} {p : Value} {xs : List Nat} (hp : Reads w p xs) : ∃ a c, p = .slice a xs.length c := by
  rcases hp with ⟨rfl, rfl⟩ | ⟨g, off, cap, rfl, _⟩
  · exact ⟨_, _, rfl⟩
  · exact ⟨_, _, rfl⟩
/-- The cell of a byte. -/
theorem Reads.at {w : World} {a : Option Addr} {n c k : Nat} {xs : List Nat} (hp : Reads w (.slice a n c) xs) (hk : k < xs.length) :
    ∃ g off, a = some ⟨g, off, none⟩ ∧ xs.length ≤ maxLen ∧ w.cell? ⟨g, off + k, none⟩ = some (.int .u8 (xs.getD k 0 : Nat)) := by
  rcases hp with ⟨h, rfl⟩ | ⟨g, off, cap, h, h1, h2, _, h3⟩
  · simp at hk
  · cases h; exact ⟨g, off, rfl, by omega, h3 k hk⟩
theorem Reads.le {w : World} {v : Value} {xs : List Nat} (hp : Reads w v xs) : xs.length ≤ maxLen := by
  rcases hp with ⟨h, rfl⟩ | ⟨g, off, cap, h, h1, h2, _, h3⟩
  · simp
  · omega

set_option maxRecDepth 100000 in
set_option maxHeartbeats 400000 in
theorem update_any (c : Nat) (p : Value) (xs : List Nat) (w : World) (hc : c < 2 ^ 32) (hp : Reads w p xs) (hb : ∀ x ∈ xs, x < 256) (hT : Tab w) :
    Calls Tryd.prog 56 #[.int .u32 c, p] w fun e w' => e = .returned (.int .u32 (crcU c xs : Nat)) ∧ w = w' := by
  obtain ⟨a, cc, hform⟩ := hp.form
  have hm := hp.le
  unfold maxLen at hm
  have HP := Lib.hid hp; clear hp
  have HT := Lib.hid hT; clear hT
  have HB := Lib.hid hb; clear hb
  subst hform
  have hn := neg32 c hc
  unfold crcU
  have hul : ∀ k, upd (ones ^^^ c) (xs.take k) < 2 ^ 32 := fun k => upd_lt (Nat.xor_lt_two_pow ones_lt hc) fun x hx => HB.out x (List.mem_of_mem_take hx)
  have HU := Lib.hid hul; clear hul
  generalize (ones ^^^ c : Nat) = c0 at hn HU ⊢
  go_enter Tryd.func56, Tryd.ntmps56
  go_wp2_with fail
  clear hn
  go_loop [0, 11] (fun v i => ∃ k : Nat, k ≤ xs.length ∧ i = .int .i64 k ∧ v = .int .u32 (upd c0 (xs.take k) : Nat)) (fun _ i => xs.length - (intOf i).toNat)
  case atStart => exact ⟨0, Nat.zero_le _, rfl, rfl⟩
  case round =>
    obtain ⟨k, hk, rfl, rfl⟩ := hrel
    have hcl := HU.out k
    by_cases hlt : k < xs.length
    · obtain ⟨g, off, rfl, _, hcell⟩ := HP.out.at hlt
      have hs : upd c0 (xs.take (k + 1)) = tkn (upd c0 (xs.take k)) (xs.getD k 0) := by rw [take_snoc xs k hlt, upd_snoc]
      have HS := Lib.hid hs; clear hs
      have hbb := getD_byte HB.out k
      generalize xs.getD k 0 = b at hcell HS hbb
      generalize upd c0 (xs.take k) = u at hcl HS ⊢
      have hw : IntKind.u32.wrap (b : Int) = (b : Int) := IntWalk.u32_in _ (by omega)
      obtain ⟨y, hy⟩ : ∃ y, y = u ^^^ b := ⟨_, rfl⟩
      have hyl : y < 2 ^ 32 := by rw [hy]; exact Nat.xor_lt_two_pow hcl (by omega)
      have h1 := xor32 u b y (by omega) (by omega) hy
      have h2 := and15 y hyl
      obtain ⟨r, hr⟩ : ∃ r, r = y % 16 := ⟨_, rfl⟩
      rw [← hr] at h2
      have ht := HT.out.cell r (by omega)
      obtain ⟨z, hz⟩ : ∃ z, z = y / 16 ^^^ tab4 r := ⟨_, rfl⟩
      have hzl : z < 2 ^ 32 := by rw [hz]; exact Nat.xor_lt_two_pow (by omega) (tab4_lt _)
      have h3 := xor32 (y / 16) (tab4 r) z (by omega) (tab4_lt _) hz
      rw [show ((y / 16 : Nat) : Int) = (y : Int) / 16 by omega] at h3
      have h4 := and15 z hzl
      obtain ⟨q, hq⟩ : ∃ q, q = z % 16 := ⟨_, rfl⟩
      rw [← hq] at h4
      have ht2 := HT.out.cell q (by omega)
      obtain ⟨x, hx⟩ : ∃ x, x = z / 16 ^^^ tab4 q := ⟨_, rfl⟩
      have h5 := xor32 (z / 16) (tab4 q) x (by omega) (tab4_lt _) hx
      rw [show ((z / 16 : Nat) : Int) = (z : Int) / 16 by omega] at h5
      have hfin : tkn u b = x := by rw [eight_steps, ← hy, ← hr, ← hz, ← hq, ← hx]
      have hr16 : r < 16 := by omega
      have hq16 : q < 16 := by omega
      have HF := Lib.hid hfin; clear hfin hx hq hz hr hy
      have hr1 : (r : Int) < 16 := by omega
      have hq1 : (q : Int) < 16 := by omega
      have hlt' : (k : Int) < xs.length := by omega
      go_wp2_with fail
      go_round
      case rel => exact ⟨k + 1, by omega, by go_num, by rw [HS.out, HF.out]⟩
      case measure => simp [intOf]; omega
    · obtain rfl : k = xs.length := by omega
      rw [List.take_length] at hcl ⊢
      have hn := neg32 _ hcl
      obtain ⟨u2, hu2⟩ : ∃ u2, u2 = ones ^^^ upd c0 xs := ⟨_, rfl⟩
      rw [← hu2] at hn
      have HU2 := Lib.hid hu2; clear hu2
      go_wp2_with fail
      go_ret
      exact ⟨ret_int (by rw [← HU2.out]), rfl⟩

theorem sum_any (p : Value) (xs : List Nat) (w : World) (hp : Reads w p xs) (hb : ∀ x ∈ xs, x < 256) (hT : Tab w) :
    Calls Tryd.prog 46 #[p] w fun e w' => e = .returned (.int .u32 (crcS xs : Nat)) ∧ w = w' := by
  obtain ⟨a, cc, hform⟩ := hp.form
  have HP := Lib.hid hp; clear hp
  have HT := Lib.hid hT; clear hT
  have HB := Lib.hid hb; clear hb
  subst hform
  go_enter Tryd.func46, Tryd.ntmps46
  go_wp2_with fail
  refine (update_any 0 _ xs w (by decide) HP.out HB.out HT.out).mono ?_
  rintro e w' ⟨rfl, rfl⟩
  go_wp2_with fail
  go_ret
  exact ⟨rfl, rfl⟩

end Go.Proofs.YtncieckanngodaaDoor
