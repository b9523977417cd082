/-
  arbaclaw02.members: the members that bytes stand for.
-/
import Derived.Test.YtljjhdfackicpaaDoorOfN
import Derived.Test.YtljjhdfackicpaaDoorCore
import Derived.Test.YtljjhdfackicpaaDoorRows
import Derived.Outline
import Derived.WalkLawsBesides
import Derived.WalkSpells
import Derived.IntWalk
import Derived.OwnWalk
import Derived.Laws.AppendOwn
namespace Go.Proofs.YtljjhdfackicpaaDoor
open Go.RowKit

/-- The cells of a list of ints. -/
def nv (xs : List Int) : List Value := xs.map (Value.int .i64)
theorem nv_length (xs : List Int) : (nv xs).length = xs.length := by simp [nv]

/-- The first k members. -/
def memb (xs : List Nat) (k : Nat) : List Int := (List.range k).map fun j => ((16 * xs.getD j 0 + j % 16 : Nat) : Int)
theorem memb_length (xs : List Nat) (k : Nat) : (memb xs k).length = k := by simp [memb]
theorem memb_succ (xs : List Nat) (k : Nat) : memb xs (k + 1) = memb xs k ++ [((16 * xs.getD k 0 + k % 16 : Nat) : Int)] := by
  simp [memb, List.range_succ]
/-- The members of bytes. -/
def membersOf (xs : List Nat) : List Int := memb xs (min xs.length 20)

theorem membersOf_in {xs : List Nat} (hb : ∀ b ∈ xs, b < 256) : ∀ i ∈ membersOf xs, 0 ≤ i ∧ i ≤ 4095 := by
  intro i hi
  simp only [membersOf, memb, List.mem_map, List.mem_range] at hi
  obtain ⟨j, hj, rfl⟩ := hi
  have : xs.getD j 0 < 256 := by
    rw [List.getD_eq_getElem?_getD, List.getElem?_eq_getElem (by omega)]
    exact hb _ (List.getElem_mem _)
  omega

/-- What is owned reads as its numbers. -/
theorem Ints.ofOwns {w : World} {base : Nat} {e : TypeId} {v : Value} {xs : List Int} {n : Nat} (ho : w.ownsRow base e 1 v n (nv xs)) : Ints w v xs := by
  have hl : xs.length = n := by have := ho.1; simpa [nv_length] using this
  subst hl
  have hcell := fun g (hg : v.ownBlock = some g) => ho.cells hg
  rcases ho.2 with ⟨rfl, h0⟩ | ⟨g, cap, cur, rfl, hb, hg, h1, h2, h3, h4⟩
  · exact Or.inl ⟨rfl, List.eq_nil_of_length_eq_zero h0⟩
  · refine Or.inr ⟨g, 0, cap, rfl, h1, h2, (Array.getElem?_eq_some_iff.1 hg).1, fun i hi => ?_⟩
    have := hcell g rfl i (.int .i64 (xs.getD i 0)) (by simp [nv, List.getD, hi])
    have hadd : (⟨g, 0, none⟩ : Addr).add i = ⟨g, 0 + i, none⟩ := by unfold Addr.add; split <;> simp_all
    rwa [hadd] at this

theorem info_i64m : (Tryd.prog.info? 3).map (fun i => (i.zero, i.size, i.bytes)) = some (some (.int .i64 0), 1, 8) := by kernel_rfl

set_option maxRecDepth 100000 in
set_option maxHeartbeats 1600000 in
theorem members_at (w : World) (g off cap : Nat) (xs : List Nat) (hg : g < w.heap.size) (hm : xs.length ≤ 9223372036854775807) (hby : Hid (∀ b ∈ xs, b < 256)) (hc : Hid (∀ i, i < xs.length → w.cell? ⟨g, off + i, none⟩ = some (.int .u8 (xs.getD i 0 : Nat)))) :
    Calls Tryd.prog 109 #[.slice (some ⟨g, off, none⟩) xs.length cap] w fun e w' => ∃ v, e = .returned v ∧ Ints w' v (membersOf xs) ∧ (∀ k, v.ownBlock = some k → w.heap.size ≤ k) ∧ Kept (fun _ => False) w w' := by
  obtain ⟨i0, hi, hz0, hz1, hz2⟩ := info_parts info_i64m
  go_enter Tryd.func109, Tryd.ntmps109
  go_wp2_with fail
  go_loopw [3, 4] (fun vv iv wr => ∃ k : Nat, k ≤ 20 ∧ k ≤ xs.length ∧ iv = .int .i64 k ∧ Hid (wr.ownsRow w.heap.size 3 1 vv k (nv (memb xs k))) ∧ Kept (fun _ => False) w wr) (fun _ iv _ => 20 - (intOf iv).toNat)
  case atStart => exact ⟨0, by omega, by omega, rfl, World.ownsRow_nil _ _ _ _, Kept.refl _ _⟩
  case round =>
    obtain ⟨k, hk, hkl, rfl, ho, hkw⟩ := hrel
    by_cases hlt : k < xs.length ∧ k < 20
    · have hl1 : (k : Int) < (xs.length : Int) := by omega
      have hl2 : (k : Int) < 20 := by omega
      obtain ⟨b, hb⟩ : ∃ b, b = xs.getD k 0 := ⟨_, rfl⟩
      have ck : wr.cell? ⟨g, off + k, none⟩ = some (.int .u8 b) := by
        rw [hb, hkw.cell (p := ⟨g, off + k, none⟩) hg (fun h => h)]
        exact hc.out k hlt.1
      have hbl : b < 256 := by
        rw [hb, List.getD_eq_getElem?_getD, List.getElem?_eq_getElem hlt.1]
        exact hby.out _ (List.getElem_mem _)
      obtain ⟨z, hz⟩ : ∃ z : Nat, z = 16 * b := ⟨_, rfl⟩
      obtain ⟨r, hr⟩ : ∃ r : Nat, r = k % 16 := ⟨_, rfl⟩
      obtain ⟨m, hm⟩ : ∃ m : Nat, m = z + r := ⟨_, rfl⟩
      have r0 : IntKind.i64.wrap (b : Int) = (b : Int) := IntWalk.i64_in _ (by omega)
      have r1 : IntKind.i64.wrap (16 * (b : Int)) = (z : Int) := by rw [IntWalk.i64_in _ (by omega)]; omega
      have r2 : (k : Int) % 16 = (r : Int) := by omega
      have r3 : IntKind.i64.wrap ((z : Int) + (r : Int)) = (m : Int) := by rw [IntWalk.i64_in _ (by omega)]; omega
      have hnew : memb xs (k + 1) = memb xs k ++ [(m : Int)] := by rw [memb_succ, ← hb, hm, hz, hr]
      have HN := Lib.hid hnew; have HB := Lib.hid hb; have HZ := Lib.hid hz; have HR := Lib.hid hr; have HM := Lib.hid hm; clear hnew hb hz hr hm
      go_wp2_with (at_builtin; refine wpList_append_own _ rfl _ _ _ rfl w.heap.size 3 i0 _ 1 8 Tryd.underlying22 hi hz0 hz1 hz2 rfl (by omega) _ _ _ rfl (ho.out.alloc _) ⟨wr.heap.size, 0, none⟩ 1 1 [.int .i64 m] rfl rfl (cell_one_new _ _ _) (fun x hx => by simp at hx; subst hx; rfl) (by unfold maxLen; omega) (by omega) (by have := hkw.size; simp; omega) ?_)
      intro v' w3 hown' hgrow3 hnil3
      have HO := Lib.hid hown'; clear hown'
      have hk3 : Kept (fun _ => False) w w3 := (hkw.then (Kept.alloc _ _ _)).trans (Kept.ofGrown (S := fun k => w.heap.size ≤ k) hgrow3 (fun k e => (ho.out.lt k e).1)) (fun _ _ h => h) (fun i hi e => by omega)
      clear hgrow3 hnil3
      go_wp2
      go_roundw
      case rel =>
        refine ⟨k + 1, by omega, by omega, by go_num, ?_, hk3⟩
        rw [HN.out]
        show World.ownsRow _ _ _ _ _ _ _
        have := HO.out
        simpa [nv] using this
      case measure => simp [intOf]; omega
    · have hmin : k = min xs.length 20 := by omega
      have HMIN := Lib.hid hmin; clear hmin
      have hcase : (¬ (k : Int) < (xs.length : Int)) ∨ ((k : Int) < (xs.length : Int) ∧ ¬ (k : Int) < 20) := by omega
      rcases hcase with hc1 | ⟨hc1, hc2⟩
      all_goals
        go_wp2_with fail
        go_ret
        refine ⟨_, rfl, ?_, fun k hk => (ho.out.lt k hk).1, hkw⟩
        unfold membersOf
        rw [← HMIN.out]
        exact Ints.ofOwns ho.out

set_option maxRecDepth 100000 in
set_option maxHeartbeats 400000 in
theorem members_nil (w : World) :
    Calls Tryd.prog 109 #[.slice none 0 0] w fun e w' => e = .returned (.slice none 0 0) ∧ w = w' := by
  go_enter Tryd.func109, Tryd.ntmps109
  go_wp2_with fail
  go_loop [3, 4] (fun vv iv => vv = .slice none 0 0 ∧ iv = .int .i64 0) (fun _ _ => 0)
  case atStart => exact ⟨rfl, rfl⟩
  case round =>
    obtain ⟨rfl, rfl⟩ := hrel
    go_wp2_with fail
    go_ret
    exact ⟨rfl, rfl⟩

/-- 'members' of any bytes. -/
theorem members_any (w : World) (v : Value) (xs : List Nat) (h : Reads w v xs) (hby : ∀ b ∈ xs, b < 256) :
    Calls Tryd.prog 109 #[v] w fun e w' => ∃ v', e = .returned v' ∧ Ints w' v' (membersOf xs) ∧ (∀ k, v'.ownBlock = some k → w.heap.size ≤ k) ∧ Kept (fun _ => False) w w' := by
  rcases h with ⟨rfl, rfl⟩ | ⟨g, off, cap, rfl, h1, h2, h3, h4⟩
  · refine (members_nil w).mono ?_
    rintro e w' ⟨rfl, rfl⟩
    exact ⟨_, rfl, Or.inl ⟨rfl, rfl⟩, by intro k hk; simp [Value.ownBlock] at hk, Kept.refl _ _⟩
  · exact members_at w g off cap xs h3 (by unfold maxLen at h2; omega) hby h4

end Go.Proofs.YtljjhdfackicpaaDoor
