/-
  Trees of paths: Children, Has, Remove (its errors).
-/
import Derived.Test.YtndedphkgkmckaaDoorPaTh
namespace Go.Proofs.YtndedphkgkmckaaDoor
open Go.RowKit Go.Maps Go.WideMaps Go.ChangeMaps
set_option linter.unusedSimpArgs false
set_option linter.unusedVariables false

/-- Whether q's parent is p. -/
def keepCh (p q : ByteArray) : Bool := ((parentS q).getD ⟨#[]⟩).toList == p.toList

set_option maxRecDepth 100000 in
theorem chFn_any (kb : Nat) (p q : ByteArray) (w : World) (hc : w.cell? ⟨kb, 0, none⟩ = some (.string p)) (hq : q.size ≤ 1000000) :
    Calls Tryd.prog 41 #[.string q, .pointer (some ⟨kb, 0, none⟩)] w fun e w' => e = .returned (.bool (keepCh p q)) ∧ Kept (fun _ => False) w w' := by
  have hp := parent_any q hq w
  have hkb := World.block_lt_of_cell? w _ hc
  unfold keepCh
  generalize (parentS q).getD ⟨#[]⟩ = u at hp ⊢
  generalize (parentS q).isSome = b at hp
  have HP := Lib.hid hp
  have HC := Lib.hid hc
  clear hp hc
  go_enter Tryd.func41, Tryd.ntmps41
  go_wp2_with fail
  refine HP.out.mono ?_
  rintro e w1 ⟨rfl, hk1⟩
  have hc1 := (hk1.cell (p := ⟨kb, 0, none⟩) hkb (fun h => h)).trans HC.out
  have HK1 := Lib.hid hk1
  clear hk1
  go_wp2_with fail
  go_ret
  exact ⟨rfl, HK1.out⟩

set_option maxRecDepth 100000 in
theorem children_any (w : World) (g : Nat) (mv : Value) (ts : List ByteArray) (p : ByteArray) (h : TreeL w g mv ts) (hts : ∀ s ∈ ts, IsPath s) (hl : ts.length ≤ 50000) :
    Calls Tryd.prog 16 #[.pointer (some ⟨g, 0, none⟩), .string p] w fun e w' => ∃ v r, e = .returned v ∧ ThoseRes w w' ts (keepCh p) v r := by
  have hk0 := Kept.alloc (fun _ => False) w (.cells #[.string p] 9)
  have hcell : ∀ W, Kept (fun _ => False) (w.alloc (.cells #[.string p] 9)) W → W.cell? ⟨w.heap.size, 0, none⟩ = some (.string p) := fun W hk => (hk.cell (p := ⟨w.heap.size, 0, none⟩) (by simp) (fun h => h)).trans (by go_simp)
  have HT := Lib.hid (thoseCh_any (w.alloc (.cells #[.string p] 9)) g w.heap.size mv ts (h.stay hk0) hts hl (keepCh p) (fun q hq W hk => chFn_any w.heap.size p q W (hcell W hk) (by omega)))
  have HK0 := Lib.hid hk0
  clear hk0 hcell h hts hl
  go_enter Tryd.func16, Tryd.ntmps16
  go_wp2_with fail
  refine HT.out.mono ?_
  rintro e w1 ⟨v, r, rfl, hr⟩
  have HR : Hid (ThoseRes w w1 ts (keepCh p) v r) := ⟨hr.row, hr.sorted, hr.mem, HK0.out.then hr.kept, fun k hk => Nat.le_trans (by simp) (hr.own k hk), hr.len⟩
  clear hr
  go_wp2_with fail
  go_ret
  exact ⟨_, _, rfl, HR.out⟩

/-- A look-up whose run is known, asked for or not (a guard that holds). -/
theorem wpList_lookup_run {P : Program} {w : World} {ops : Array Oper} {rest : List Oper} {o : Oper} {a : Act} {Q : Exit → Act → World → Prop} (hw : Region.wanted o (yielded ops a.tmps) = true) (m x : Operand) (t : TypeId)
    (ho : o.op = Op.lookup t m x false) (mv key : Value) (hm : a.eval m = mv) (hx : a.eval x = key) {v : Value} {w' : World} (hr : (Instr.lookup t mv key false).run P w = .ok v w') (h : wpList P ops Q rest (a.put o.dst v) w') : wpList P ops Q (o :: rest) a w := by
  refine wpList_step fun K hK => ?_
  rw [if_pos hw]
  unfold Oper.wp
  simp [execOp, ho, hm, hx, hr, Result.andThen]
  exact hK _ _ h

/-- Whether a tree has a path. -/
def hasS (ts : List ByteArray) (p : ByteArray) : Bool := (p.toList == [47]) || memS p ts

set_option maxRecDepth 100000 in
theorem map_look (w : World) (mv : Value) (ts : List ByteArray) (p : ByteArray) (hp : p.size ≤ 1000000) (h : MapV w mv (fun s => memS s ts) ts.length) :
    (Instr.lookup 67 mv (.string p) false).run Tryd.prog w = .ok (.bool (memS p ts)) w := by
  have hkey := keyOf_string_mk Tryd.underlying9 (s := p) (by unfold maxLen; omega)
  rcases h with ⟨rfl, h0, _⟩ | ⟨m, n, D, rfl, h1, h2, _, _⟩
  · have := Maps.look_nil (w := w) false lawT Tryd.underlying67 (zeroBl w) hkey
    have h0p : memS p ts = false := h0 p
    rw [h0p, this]
    rfl
  · obtain ⟨v, ps, hrun, hv⟩ := h1.lookup lawT Tryd.underlying67 (zeroBl w) (pl_bool false) hkey
    rw [(h2 p).2] at hv
    obtain ⟨x, rfl, hx⟩ := pl_bool_inv hv
    injection hx with hx1 hx2
    injection hx1 with hx1
    injection hx1 with hx1
    rw [hrun, ← hx1]

set_option maxRecDepth 100000 in
theorem has_any (w : World) (g : Nat) (mv : Value) (ts : List ByteArray) (p : ByteArray) (h : TreeL w g mv ts) (hp : p.size ≤ 1000000) :
    Calls Tryd.prog 14 #[.pointer (some ⟨g, 0, none⟩), .string p] w fun e w' => e = .returned (.bool (hasS ts p)) ∧ w = w' := by
  have hc := h.cell
  have hr := map_look w mv ts p hp h.map
  unfold hasS
  by_cases hroot : p.toList = [47]
  · rw [show (p.toList == [47]) = true by simp [hroot]]
    have e1b : (p.toList == [47]) = true := by simp [hroot]
    show Calls _ _ _ _ fun e w' => e = .returned (.bool true) ∧ _
    clear h hr
    go_enter Tryd.func14, Tryd.ntmps14
    go_wp2_with fail
    go_ret
    exact ⟨rfl, rfl⟩
  · have e1b : (p.toList == [47]) = false := beq_eq_false_iff_ne.2 hroot
    rw [e1b]
    show Calls _ _ _ _ fun e w' => e = .returned (.bool (memS p ts)) ∧ _
    have HR := Lib.hid hr
    generalize memS p ts = b at HR ⊢
    clear h hr
    go_enter Tryd.func14, Tryd.ntmps14
    go_wp2_with (first
      | (at_lookup; refine wpList_lookup_run (by rfl) _ _ _ rfl _ _ rfl rfl HR.out ?_)
      | fail)
    go_ret
    exact ⟨by first | rfl | simp, rfl⟩
end Go.Proofs.YtndedphkgkmckaaDoor
