/-
  arbaclaw02.members: the members that bytes stand for.
-/
import Derived.Test.YtccanbjnbmihgaaDoorOfN
import Derived.Test.YtccanbjnbmihgaaDoorCore
import Derived.Test.YtccanbjnbmihgaaDoorRows
import Derived.Outline
import Derived.WalkLawsBesides
import Derived.WalkSpells
import Derived.IntWalk
import Derived.OwnWalk
import Derived.Laws.AppendOwn
namespace Go.Proofs.YtccanbjnbmihgaaDoor
open Go.RowKit

/-- The cells of a list of ints. -/
def nv (xs : List Int) : List Value := xs.map (Value.int .i64)
theorem nv_length (xs : List Int) : (nv xs).length = xs.length := by simp [nv]

/-- The first k members. -/
def memb (xs : List Nat) (k : Nat) : List Int := (List.range k).map fun j => ((16 * xs.getD j 0 + j % 16 : Nat) : Int)
theorem memb_length (xs : List Nat) (k : Nat) : (memb xs k).length = k := by simp [memb]
theorem memb_succ (xs : List Nat) (k : Nat) : memb xs (k + 1) = memb xs k ++ [((16 * xs.getD k 0 + k % 16 : Nat) : Int)] := by
  simp [memb, List.range_succ]
/-- The members of bytes. -/
def membersOf (xs : List Nat) : List Int := memb xs (min xs.length 20)

theorem membersOf_in {xs : List Nat} (hb : ∀ b ∈ xs, b < 256) : ∀ i ∈ membersOf xs, 0 ≤ i ∧ i ≤ 4095 := by
  intro i hi
  simp only [membersOf, memb, List.mem_map, List.mem_range] at hi
  obtain ⟨j, hj, rfl⟩ := hi
  have : xs.getD j 0 < 256 := by
    rw [List.getD_eq_getElem?_getD, List.getElem?_eq_getElem (by omega)]
    exact hb _ (List.getElem_mem _)
  omega

/-- What is owned reads as its numbers. -/
theorem Ints.ofOwns {w : World} {base : Nat} {e : TypeId} {v : Value} {xs : List Int} {n : Nat} (ho : w.ownsRow base e 1 v n (nv xs)) : Ints w v xs := by
  have hl : xs.length = n := by have := ho.1; simpa [nv_length] using this
  subst hl
  have hcell := fun g (hg : v.ownBlock = some g) => ho.cells hg
  rcases ho.2 with ⟨rfl, h0⟩ | ⟨g, cap, cur, rfl, hb, hg, h1, h2, h3, h4⟩
  · exact Or.inl ⟨rfl, List.eq_nil_of_length_eq_zero h0⟩
  · refine Or.inr ⟨g, 0, cap, rfl, h1, h2, (Array.getElem?_eq_some_iff.1 hg).1, fun i hi => ?_⟩
    have := hcell g rfl i (.int .i64 (xs.getD i 0)) (by simp [nv, List.getD, hi])
    have hadd : (⟨g, 0, none⟩ : Addr).add i = ⟨g, 0 + i, none⟩ := by unfold Addr.add; split <;> simp_all
    rwa [hadd] at this

theorem info_i64m : (Tryd.prog.info? 3).map (fun i => (i.zero, i.size, i.bytes)) = some (some (.int .i64 0), 1, 8) := by kernel_rfl

end Go.Proofs.YtccanbjnbmihgaaDoor
