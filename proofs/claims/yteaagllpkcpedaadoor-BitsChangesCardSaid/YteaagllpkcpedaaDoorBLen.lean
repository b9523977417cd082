/-
  bits.Set.List: the members in ascending order.
-/
import Derived.Test.YteaagllpkcpedaaDoorBOn
import Derived.Test.YteaagllpkcpedaaDoorEqual
import Derived.Deep.RegionHeld3
import Derived.Deep.DrawnRows
import Derived.Laws.MakeOwn
namespace Go.Proofs.YteaagllpkcpedaaDoor
open Go.RowKit
attribute [local go_sem ↓] Go.wp_at_zero Go.wp_at_succ
set_option linter.unusedSimpArgs false

/-- What Len computes. -/
def lenS (M : Nat) (hs : List Nat) : Nat := popS (M % 2 ^ 64) + (hs.map popS).sum
theorem pop_sum (hs : List Nat) (k : Nat) (h : k < hs.length) : ((hs.take (k + 1)).map popS).sum = ((hs.take k).map popS).sum + popS (hs.getD k 0) := by
  rw [List.take_succ_eq_append_getElem h]
  simp only [List.map_append, List.map_cons, List.map_nil, List.sum_append, List.sum_cons, List.sum_nil, Nat.add_zero]
  congr 2
  simp [List.getD, h]
theorem pop_bound : ∀ hs : List Nat, (hs.map popS).sum ≤ 127 * hs.length
  | [] => by simp
  | x :: xs => by
    have := pop_bound xs
    have h := popS_le x
    rw [List.map_cons, List.sum_cons, List.length_cons]; omega

set_option maxRecDepth 100000 in
set_option maxHeartbeats 1600000 in
theorem len_any (w : World) (v : Value) (M : Nat) (hv : Value) (hs : List Nat) (hf : v = .agg #[.int .u64 (M % 2 ^ 64 : Nat), hv]) (hw : Words w hv hs) (hc : Canon hs (M / 2 ^ 64)) (hsm : hs.length ≤ 63) :
    Calls Tryd.prog 37 #[v] w fun e w' => e = .returned (.int .i64 (lenS M hs : Nat)) ∧ Kept (fun _ => False) w w' := by
  subst hf
  have hby : ∀ i, hs.getD i 0 < 2 ^ 64 := fun i => by
    by_cases hi : i < hs.length
    · rw [hc.eq, wl_getD _ _ _ hi]; exact Nat.mod_lt _ (Nat.pow_pos (by omega))
    · rw [List.getD_eq_getElem?_getD, List.getElem?_eq_none (by omega)]; exact Nat.pow_pos (by omega)
  obtain ⟨va, vc, hf, _, hx⟩ := words_form hw
  obtain ⟨n, hn⟩ : ∃ n, n = hs.length := ⟨_, rfl⟩
  rw [← hn] at hf hx hsm
  have hlo : M % 2 ^ 64 < 2 ^ 64 := Nat.mod_lt _ (Nat.pow_pos (by omega))
  have hLS : lenS M hs = popS (M % 2 ^ 64) + (hs.map popS).sum := rfl
  generalize M % 2 ^ 64 = lo at hlo hLS ⊢
  obtain ⟨R, hR⟩ : ∃ R, R = lenS M hs := ⟨_, rfl⟩
  rw [← hR] at hLS ⊢
  have HR := Lib.hid hLS; have HN := Lib.hid hn
  have hp0 := popS_le lo
  have HBD := Lib.hid (fun k : Nat => pop_bound (hs.take k))
  have HX := Lib.hid hx; have HBY := Lib.hid hby
  have HO := Lib.hid (fun (w : World) => ones_any lo (by omega) w)
  clear hw hc hx hn hby hlo hLS hR
  subst hf
  have KA := Lib.hid (Kept.alloc (fun _ => False) w (.cells #[.int .u64 lo, .slice va n vc] 28))
  go_enter Tryd.func37, Tryd.ntmps37
  go_wp2_with fail
  refine (HO.out _).mono ?_
  rintro e w1 ⟨rfl, rfl⟩
  go_wp2_with fail
  obtain ⟨p0, hp0e⟩ : ∃ p, p = popS lo := ⟨_, rfl⟩
  rw [← hp0e] at hp0 HR ⊢
  clear hp0e HO
  generalize w.alloc (.cells #[.int .u64 lo, .slice va n vc] 28) = wA at KA ⊢
  go_loop [3, 12] (fun sv iv => ∃ k s : Nat, k ≤ n ∧ iv = .int .i64 k ∧ s ≤ 127 * (k + 1) ∧ sv = .int .i64 s ∧ Hid (s = p0 + ((hs.take k).map popS).sum)) (fun _ iv => n - (intOf iv).toNat)
  case atStart => exact ⟨0, p0, by omega, rfl, by omega, rfl, by show p0 = p0 + _; simp⟩
  case round =>
    obtain ⟨k, s, hk, rfl, hs1, rfl, hsum⟩ := hrel
    by_cases hlt : k < n
    · have l1 : (k : Int) < (n : Int) := by omega
      have l0 : (0 : Int) ≤ (k : Int) := by omega
      obtain ⟨g, off, rfl, hg, hcell⟩ := HX.out k (by assumption)
      have hcell2 : wA.cell? ⟨g, off + k, none⟩ = _ := (KA.out.cell (p := ⟨g, off + k, none⟩) hg (fun h => h)).trans hcell
      have HO2 := Lib.hid (fun (w : World) => ones_any _ (HBY.out k) w)
      have hp := popS_le (hs.getD k 0)
      have hnext := pop_sum hs k (by have := HN.out; omega)
      have HNX := Lib.hid hnext
      clear hcell hnext
      generalize hs.getD k 0 = y at hcell2 HO2 hp HNX
      obtain ⟨c2, hc2⟩ : ∃ c, c = popS y := ⟨_, rfl⟩
      rw [← hc2] at HO2 hp HNX
      clear hc2
      go_wp2_with fail
      refine (HO2.out _).mono ?_
      rintro e w1 ⟨rfl, rfl⟩
      go_wp2_with fail
      go_round
      case rel => exact ⟨k + 1, s + c2, by omega, by go_num, by omega, by go_num, by show _ = _; rw [HNX.out, hsum.out]; omega⟩
      case measure => simp [intOf]; omega
    · have hRs : s = R := by rw [HR.out, hsum.out, List.take_of_length_le (by have := HN.out; omega)]
      have HRS := Lib.hid hRs
      clear hRs
      go_wp2_with fail
      go_ret
      exact ⟨congrArg (fun z : Nat => Ending.returned (Value.int .i64 (z : Int))) HRS.out, KA.out⟩
end Go.Proofs.YteaagllpkcpedaaDoor
