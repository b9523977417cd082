/-
  arbacref04.Update, arbacref04.Sum: what the plain mathematics says.
-/
import Derived.Test.YtaoidabelclipaaDoorCrcB
namespace Go.Proofs.YtaoidabelclipaaDoor
open Go.RowKit

set_option maxRecDepth 100000 in
set_option maxHeartbeats 400000 in
theorem rupdate_any (c : Nat) (p : Value) (xs : List Nat) (w : World) (hc : c < 2 ^ 32) (hp : Reads w p xs) (hb : ∀ x ∈ xs, x < 256) :
    Calls Tryd.prog 68 #[.int .u32 c, p] w fun e w' => e = .returned (.int .u32 (crcU c xs : Nat)) ∧ w = w' := by
  obtain ⟨a, cc, hform⟩ := hp.form
  have hm := hp.le
  unfold maxLen at hm
  have HP := Lib.hid hp; clear hp
  have HB := Lib.hid hb; clear hb
  subst hform
  have hn := neg32 c hc
  unfold crcU
  have hul : ∀ k, upd (ones ^^^ c) (xs.take k) < 2 ^ 32 := fun k => upd_lt (Nat.xor_lt_two_pow ones_lt hc) fun x hx => HB.out x (List.mem_of_mem_take hx)
  have HU := Lib.hid hul; clear hul
  generalize (ones ^^^ c : Nat) = c0 at hn HU ⊢
  go_enter Tryd.func68, Tryd.ntmps68
  go_wp2_with fail
  clear hn
  go_loop [0, 11] (fun v i => ∃ k : Nat, k ≤ xs.length ∧ i = .int .i64 k ∧ v = .int .u32 (upd c0 (xs.take k) : Nat)) (fun _ i => xs.length - (intOf i).toNat)
  case atStart => exact ⟨0, Nat.zero_le _, rfl, rfl⟩
  case round =>
    obtain ⟨k, hk, rfl, rfl⟩ := hrel
    have hcl := HU.out k
    by_cases hlt : k < xs.length
    · obtain ⟨g, off, rfl, _, hcell⟩ := HP.out.at hlt
      have hs : upd c0 (xs.take (k + 1)) = tkn (upd c0 (xs.take k)) (xs.getD k 0) := by rw [take_snoc xs k hlt, upd_snoc]
      have HS := Lib.hid hs; clear hs
      have hbb := getD_byte HB.out k
      generalize xs.getD k 0 = b at hcell HS hbb
      generalize upd c0 (xs.take k) = u at hcl HS ⊢
      have hlt' : (k : Int) < xs.length := by omega
      go_wp2_with fail
      refine (take_any4 u b hcl hbb w).mono ?_
      rintro e w' ⟨rfl, rfl⟩
      go_wp2_with fail
      go_round
      case rel => exact ⟨k + 1, by omega, by go_num, by rw [HS.out]⟩
      case measure => simp [intOf]; omega
    · obtain rfl : k = xs.length := by omega
      rw [List.take_length] at hcl ⊢
      have hn := neg32 _ hcl
      obtain ⟨u2, hu2⟩ : ∃ u2, u2 = ones ^^^ upd c0 xs := ⟨_, rfl⟩
      rw [← hu2] at hn
      have HU2 := Lib.hid hu2; clear hu2
      go_wp2_with fail
      go_ret
      exact ⟨ret_int (by rw [← HU2.out]), rfl⟩

theorem rsum_any (p : Value) (xs : List Nat) (w : World) (hp : Reads w p xs) (hb : ∀ x ∈ xs, x < 256) :
    Calls Tryd.prog 69 #[p] w fun e w' => e = .returned (.int .u32 (crcS xs : Nat)) ∧ w = w' := by
  obtain ⟨a, cc, hform⟩ := hp.form
  have HP := Lib.hid hp; clear hp
  have HB := Lib.hid hb; clear hb
  subst hform
  go_enter Tryd.func69, Tryd.ntmps69
  go_wp2_with fail
  refine (rupdate_any 0 _ xs w (by decide) HP.out HB.out).mono ?_
  rintro e w' ⟨rfl, rfl⟩
  go_wp2_with fail
  go_ret
  exact ⟨rfl, rfl⟩
end Go.Proofs.YtaoidabelclipaaDoor
