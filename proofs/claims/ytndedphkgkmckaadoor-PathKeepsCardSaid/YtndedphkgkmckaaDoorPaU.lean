/-
  Trees of paths: copied, Add, Has.
-/
import Derived.Test.YtndedphkgkmckaaDoorPaT
import Derived.Laws.IdiomRangeMap
namespace Go.Proofs.YtndedphkgkmckaaDoor
open Go.RowKit Go.Maps Go.WideMaps Go.ChangeMaps
set_option linter.unusedSimpArgs false
set_option linter.unusedVariables false

set_option maxRecDepth 100000 in
theorem mcopyB_nil (bd : Nat) (w : World) : Calls Tryd.prog 65 #[.map (some bd), .map none] w fun e w' => e = .returned (.tuple #[]) ∧ Kept (fun _ => False) w w' := by
  have hrg := run_range_nilMap (P := Tryd.prog) w 67 9 4 Tryd.underlying67
  have hnx : ∀ ty, (Instr.next (.pointer (some ⟨w.heap.size, 0, none⟩)) false ty).run Tryd.prog (w.alloc (.mapIter none 0 #[] 0)) = _ := fun ty => run_next_nilMap _ ty 0 0 #[]
  have HK := Lib.hid (Kept.alloc (fun _ => False) w (.mapIter none 0 #[] 0))
  go_enter Tryd.func65, Tryd.ntmps65
  go_wp2
  refine wp_loop_rounds 1 ?_
  rw [rounds_succ]
  go_wp2
  go_end0
  exact ⟨rfl, HK.out⟩

theorem mk_hint (W : World) (c : Int) : (Instr.makeMap 67 (some (.int .i64 c))).run Tryd.prog W = .ok (.map (some W.heap.size)) (W.alloc (.map #[] 0)) := by
  unfold Instr.makeMap
  simp only [Sem.run_bind, run_underlying Tryd.underlying67, Result.andThen_ok]
  rfl

set_option maxRecDepth 100000 in
theorem copied_any (w : World) (g : Nat) (mv : Value) (M : ByteArray → Bool) (c : Nat) (h : TreeAt w g mv M c) :
    Calls Tryd.prog 44 #[.pointer (some ⟨g, 0, none⟩)] w fun e w' => ∃ m D, e = .returned (.map (some m)) ∧ OwnMB w' m c D ∧ MapB D M ∧ Maps.size D = c ∧ w.heap.size ≤ m ∧ Kept (fun _ => False) w w' := by
  have hmm := mk_hint
  have hc := h.cell
  have hlt := h.lt
  have hm0 := World.ownsMap_made (H := Unit) w Tryd.prog 9 (plainElem Tryd.prog 4)
  have HM0 := Lib.hid hm0
  have HK := Lib.hid (Kept.alloc (fun _ => False) w (.map #[] 0))
  rcases h.map with ⟨rfl, h0, rfl⟩ | ⟨m, n, D, rfl, h1, h2, h3, h4⟩
  · have hl := fun ty => Maps.len_nil (P := Tryd.prog) (w := w) Tryd.underlying67 ty
    have hMN : MapB (.map []) M := fun s => by rw [h0 s]; exact MapB.nil s
    have HMN := Lib.hid hMN
    clear h h0 hMN hm0
    go_enter Tryd.func44, Tryd.ntmps44
    go_wp2_with fail
    refine (mcopyB_nil _ _).mono ?_
    rintro e w1 ⟨rfl, hk1⟩
    have HK1 := Lib.hid (HK.out.then hk1)
    have HO := Lib.hid (ownMB_kept HM0.out hk1 (fun h => h))
    clear hk1
    go_wp2_with fail
    go_ret
    exact ⟨_, _, rfl, HO.out, HMN.out, rfl, Nat.le_refl _, HK1.out⟩
  · have hl := fun ty => h1.len Tryd.underlying67 ty
    rw [h3] at hl
    have H1 := Lib.hid h1; have H2 := Lib.hid h2; have H3 := Lib.hid h3
    have hsz := h1.size_le
    have hml := h1.lt
    rw [h3] at hsz
    have hs := ownMB_kept h1 (Kept.alloc (fun _ => False) w (.map #[] 0)) (fun h => h)
    have HS := Lib.hid hs
    clear h h1 h2 h3 hm0 hs
    go_enter Tryd.func44, Tryd.ntmps44
    go_wp2_with fail
    refine (mcopyB_any w.heap.size m n D _ HM0.out HS.out (by omega) (by rw [H3.out]; omega)).mono ?_
    rintro e w1 ⟨rfl, ho1, hk1⟩
    have HK1 : Hid (Kept (fun _ => False) w w1) := HK.out.trans hk1 (fun _ _ h => h) (fun i hi e => by omega)
    rw [H3.out] at ho1
    have HO := Lib.hid ho1
    clear hk1 ho1
    go_wp2_with fail
    go_ret
    exact ⟨_, _, rfl, HO.out, H2.out, H3.out, Nat.le_refl _, HK1.out⟩
end Go.Proofs.YtndedphkgkmckaaDoor
