/-
  slices.Insert of one entry into a row of one's own.
-/
import Derived.Test.YtccanbjnbmihgaaDoorMbS
import Derived.Shelf.RegionOpenPlain
import Derived.Lib.Walk
import Derived.Lib.JoinLaws
import Derived.Lib.Overlaps
import Derived.Laws.Externs
import Derived.Shelf.Spec.SlicesInsert
namespace Go.Proofs.YtccanbjnbmihgaaDoor
open Go.RowKit Go.Shelf
set_option linter.unusedVariables false
set_option linter.unusedSimpArgs false

/-- One entry in a block of its own. -/
def One (w : World) (p : Nat) (x : Ent) : Prop := ∃ T, w.heap[p]? = some (.cells (entC x).toArray T (0, 0))
theorem One.at {w : World} {p : Nat} {x : Ent} (h : One w p x) : EntAt w p 0 x := by
  obtain ⟨T, h⟩ := h
  exact ⟨cell_of_row w p 0 _ T (0, 0) h, cell_of_row w p 1 _ T (0, 0) h, cell_of_row w p 2 _ T (0, 0) h⟩
theorem One.cells {w : World} {p : Nat} {x : Ent} (h : One w p x) : ∀ j u, (entC x)[j]? = some u → w.cell? ((⟨p, 0, none⟩ : Addr).add j) = some u := fun j u hu => by
  have hadd : (⟨p, 0, none⟩ : Addr).add j = ⟨p, 0 + j, none⟩ := by unfold Addr.add; split <;> simp_all
  obtain ⟨T, h⟩ := h
  rw [hadd, cell_of_row w p _ _ T (0, 0) h, Nat.zero_add]
  simpa using hu
theorem entC_one (x : Ent) : ∀ u ∈ entC x, u.oneCell' = true := fun u hu => by
  simp only [entC, List.mem_cons, List.mem_nil_iff, or_false] at hu
  obtain rfl | rfl | rfl := hu <;> rfl

set_option maxRecDepth 100000 in
set_option maxHeartbeats 4000000 in
/-- At the end. -/
theorem insert_end (w : World) (v : Value) (l : List Ent) (x : Ent) (B p : Nat) (hown : OwnE 87 B w v l) (hl : l.length ≤ 1000000) (hB : B ≤ w.heap.size) (hx : One w p x) :
    Calls Tryd.prog 84 #[v, .int .i64 (l.length : Int), .slice (some ⟨p, 0, none⟩) 1 1] w fun e w' =>
      ∃ v', e = .returned v' ∧ OwnE 87 B w' v' (l ++ [x]) ∧ Kept (blk v) w w' := by
  obtain ⟨i0, hi, hz0, hz1, hz2⟩ := info_parts info_ent
  have h0 := hown
  have H0 := Lib.hid h0; have HX := Lib.hid hx
  have e1 : (entC x).length = 1 * 3 := rfl
  obtain ⟨xs, hxs⟩ : ∃ xs, xs = flatE l := ⟨_, rfl⟩
  unfold OwnE at hown
  rw [← hxs] at hown
  obtain ⟨n, hn⟩ : ∃ n, n = l.length := ⟨_, rfl⟩
  rw [← hn] at hown hl ⊢
  have HO := Lib.hid hown
  rcases hown.2 with ⟨rfl, h2⟩ | ⟨g, cap, cur, rfl, hb, hg, h1, h2, _⟩
  all_goals
    clear hown h0 hx
    go_enter Tryd.func84, Tryd.ntmps84
    go_wp2_with (at_builtin; refine wpList_append_own_at _ rfl _ _ _ rfl B 87 i0 _ 3 24 Tryd.underlying85 hi hz0 hz1 hz2 rfl (by omega) _ n xs rfl HO.out ⟨p, 0, none⟩ 1 1 (entC x) rfl e1 HX.out.cells (entC_one x) (by unfold maxLen; omega) (by omega) hB ?_)
    all_goals
      intro v' w1 hown1 hgrow _ hat
      have HE : Hid (OwnE 87 B w1 v' (l ++ [x]) ∧ Kept (blk _) w w1) := ⟨OwnE.push hown1, Kept.ofGrown hgrow (fun k e => e)⟩
      clear hown1 hgrow hat
      go_wp2
      go_ret
      exact ⟨_, rfl, HE.out⟩
end Go.Proofs.YtccanbjnbmihgaaDoor
