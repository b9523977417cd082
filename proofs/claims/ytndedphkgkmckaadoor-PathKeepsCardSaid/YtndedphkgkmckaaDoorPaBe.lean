/-
  Trees of paths: Below.
-/
import Derived.Test.YtndedphkgkmckaaDoorPaTb
import Derived.Test.YtndedphkgkmckaaDoorPaCh
import Derived.Test.YtndedphkgkmckaaDoorPaX
import Derived.Deep.RegionLaw
namespace Go.Proofs.YtndedphkgkmckaaDoor
open Go.RowKit Go.Maps Go.WideMaps Go.ChangeMaps
set_option linter.unusedSimpArgs false
set_option linter.unusedVariables false

theorem step_append_strs {w : World} {ops : Array Oper} {o : Oper} {a : Act} {K : Act → World → Prop} {Q : Exit → Act → World → Prop} {E : Prop} (hgd : o.guard = none) (s x : Operand)
    (ho : o.op = .call { callee := .builtin .append, args := #[s, x], argTypes := #[25, 25] }) (hty : o.type = 25) (B : Nat) (v u : Value) (acc r : List ByteArray) (hd : a.eval s = v) (hs : a.eval x = u)
    (hown : OwnS w B v acc) (hr : Strs w u r) (hl : acc.length + r.length ≤ 1000000) (hB : B ≤ w.heap.size)
    (h : ∀ a' c' w', OwnS w' B (.slice a' (acc ++ r).length c') (acc ++ r) → Kept (fun k => v.ownBlock = some k) w w' → K (a.put o.dst (.slice a' (acc ++ r).length c')) w') :
    if Region.wanted o (yielded ops a.tmps) = true then Oper.wp Tryd.prog o a w K Q else E := by
  have hw : Region.wanted o (yielded ops a.tmps) = true := by simp [Region.wanted, hgd]
  rw [if_pos hw]
  obtain ⟨a', c', w', hrun, hf, hk⟩ := append_strs_run hown hr hl hB
  rw [← hty] at hrun
  have hrun2 : (Builtin.append_ #[25, 25] o.type #[v, u]).run Tryd.prog w = .ok (.slice a' (acc ++ r).length c') w' := by rw [hty] at hrun ⊢; exact hrun
  unfold Oper.wp execOp
  simp only [ho, resolve, invoke, builtin, Sem.run_bind, Sem.run_pure, Result.andThen_ok, List.map_toArray, List.map_cons, List.map_nil, hd, hs, hrun2]
  exact h _ _ _ hf hk
theorem owns_one (w : World) (p : ByteArray) : OwnS (w.alloc (.cells #[.string p] 9)) w.heap.size (.slice (some ⟨w.heap.size, 0, none⟩) 1 1) [p] :=
  ⟨by simp [sv], Or.inr ⟨w.heap.size, 1, #[.string p], rfl, Nat.le_refl _, heap_alloc_new w _, Nat.le_refl _, by unfold maxLen; omega, by simp, by simp [sv]⟩⟩

/-- Whether q lies below p. -/
def keepBe (p q : ByteArray) : Bool := (q.toList != p.toList) && withinS q p

set_option maxRecDepth 100000 in
theorem beFn_any (kb : Nat) (p q : ByteArray) (w : World) (hc : w.cell? ⟨kb, 0, none⟩ = some (.string p)) (hp : p.size ≤ 1000000) (hq : q.size ≤ 1000000) :
    Calls Tryd.prog 40 #[.string q, .pointer (some ⟨kb, 0, none⟩)] w fun e w' => e = .returned (.bool (keepBe p q)) ∧ Kept (fun _ => False) w w' := by
  have hw := within_any q p hq hp w
  have hkb := World.block_lt_of_cell? w _ hc
  obtain ⟨V, hV⟩ : ∃ V, V = keepBe p q := ⟨_, rfl⟩
  rw [← hV]
  unfold keepBe at hV
  generalize withinS q p = b at hw hV
  have HP := Lib.hid hw
  clear hw
  cases he : (q.toList != p.toList) with
  | false =>
    rw [he] at hV
    have hb : (q.toList == p.toList) = true := by simpa [bne] using he
    simp only [Bool.false_and] at hV
    subst hV
    go_enter Tryd.func40, Tryd.ntmps40
    go_wp2_with fail
    go_ret
    exact ⟨rfl, Kept.refl _ _⟩
  | true =>
    rw [he] at hV
    have hb : (q.toList == p.toList) = false := by simpa [bne] using he
    simp only [Bool.true_and] at hV
    subst hV
    go_enter Tryd.func40, Tryd.ntmps40
    go_wp2_with fail
    refine HP.out.mono ?_
    rintro e w1 ⟨rfl, hk1⟩
    have HK1 := Lib.hid hk1
    clear hk1
    go_wp2_with fail
    go_ret
    exact ⟨rfl, HK1.out⟩

set_option maxRecDepth 100000 in
theorem below_no (w : World) (g : Nat) (mv : Value) (ts : List ByteArray) (p : ByteArray) (h : TreeL w g mv ts) (hp : p.size ≤ 1000000) (hn : hasS ts p = false) :
    Calls Tryd.prog 11 #[.pointer (some ⟨g, 0, none⟩), .string p] w fun e w' => e = .returned (.slice none 0 0) ∧ Kept (fun _ => False) w w' := by
  have hk0 := Kept.alloc (fun _ => False) w (.cells #[.string p] 9)
  have HH := has_any _ g mv ts p (h.stay hk0) hp
  rw [hn] at HH
  have HH := Lib.hid HH
  have HK0 := Lib.hid hk0
  clear hk0 h hn
  go_enter Tryd.func11, Tryd.ntmps11
  go_wp2_with fail
  refine HH.out.mono ?_
  rintro e w1 ⟨rfl, rfl⟩
  go_wp2_with fail
  go_ret
  exact ⟨rfl, HK0.out⟩

set_option maxRecDepth 100000 in
set_option maxHeartbeats 3200000 in
theorem below_own (w : World) (g : Nat) (mv : Value) (ts : List ByteArray) (p : ByteArray) (h : TreeL w g mv ts) (hts : ∀ s ∈ ts, IsPath s) (hl : ts.length ≤ 50000) (hp : p.size ≤ 1000000) (hn : hasS ts p = true) :
    Calls Tryd.prog 11 #[.pointer (some ⟨g, 0, none⟩), .string p] w fun e w' => ∃ v r, e = .returned v ∧ OwnS w' w.heap.size v (p :: r) ∧ SortedP r ∧ (∀ x, x ∈ r ↔ x ∈ ts ∧ keepBe p x = true) ∧ r.length ≤ ts.length ∧ (∀ k, v.ownBlock = some k → w.heap.size ≤ k) ∧ Kept (fun _ => False) w w' := by
  obtain ⟨wA, hwA⟩ : ∃ wA, wA = w.alloc (.cells #[.string p] 9) := ⟨_, rfl⟩
  have hk0 : Kept (fun _ => False) w wA := by rw [hwA]; exact Kept.alloc _ _ _
  have hszA : wA.heap.size = w.heap.size + 1 := by rw [hwA]; simp
  have HH := has_any wA g mv ts p (h.stay hk0) hp
  rw [hn] at HH
  have HH := Lib.hid HH
  have hcell : ∀ W, Kept (fun _ => False) wA W → W.cell? ⟨w.heap.size, 0, none⟩ = some (.string p) := fun W hk => (hk.cell (p := ⟨w.heap.size, 0, none⟩) (by simp; omega) (fun h => h)).trans (by rw [hwA]; go_simp)
  have hT : ∀ W, Kept (fun _ => False) wA W → Calls Tryd.prog 39 #[.pointer (some ⟨g, 0, none⟩), .func (.func 40) #[] #[.pointer (some ⟨w.heap.size, 0, none⟩)]] W fun e w' => ∃ v r, e = .returned v ∧ ThoseRes W w' ts (keepBe p) v r := fun W hk =>
    thoseBe_any W g w.heap.size mv ts (h.stay (hk0.then hk)) hts hl (keepBe p) (fun q hq W2 hk2 => beFn_any w.heap.size p q W2 (hcell W2 (hk.then hk2)) hp (by omega))
  have HK0 := Lib.hid hk0; have HT := Lib.hid hT; have HC := Lib.hid hcell; have HWA := Lib.hid hwA; have HSZ := Lib.hid hszA; have HLL := Lib.hid hl
  clear hk0 h hn hts hl hT hcell hwA hszA
  go_enter Tryd.func11, Tryd.ntmps11
  go_wp2_with fail
  rw [← HWA.out]
  refine HH.out.mono ?_
  rintro e w1 ⟨rfl, rfl⟩
  have hc0 := HC.out wA (Kept.refl _ _)
  go_wp2_with fail
  have KA : Hid (Kept (fun _ => False) wA (wA.alloc (.cells #[.string p] 9)).drew) := (Kept.alloc _ _ _).drew
  have KB : Hid (Kept (fun _ => False) wA wA.drew) := (Kept.refl _ _).drew
  have HO1 : Hid (OwnS (wA.alloc (.cells #[.string p] 9)).drew wA.heap.size (.slice (some ⟨wA.heap.size, 0, none⟩) 1 1) [p]) := (owns_one wA p).kept ((Kept.refl (fun _ => False) _).drew) (fun _ _ h => h)
  go_region_law (first
    | (go_simp; go_at_call 39; (first | (with_reducible refine (HT.out _ KA.out).mono ?_; rintro e w2 ⟨v, r, rfl, hr⟩; obtain ⟨aa, cc, rfl, _, _⟩ := hr.row.form; have HRR := Lib.hid hr; have M1 : True := trivial) | (with_reducible refine (HT.out _ KB.out).mono ?_; rintro e w2 ⟨v, r, rfl, hr⟩; obtain ⟨aa, cc, rfl, _, _⟩ := hr.row.form; have HRR := Lib.hid hr; have hc2 := HC.out w2 (KB.out.then hr.kept))); clear hr)
    | (refine step_append_strs (by rfl) _ _ (by rfl) (by rfl) wA.heap.size (.slice (some ⟨wA.heap.size, 0, none⟩) 1 1) _ [p] r (by rfl) (by rfl) (HO1.out.kept HRR.out.kept (fun _ _ h => h)) HRR.out.row (by have := HRR.out.len; have := HLL.out; simp; omega) (by have := HRR.out.kept.size; simp at this; omega) ?_; intro a' c' w5 hown5 hk5; have H5 := Lib.hid hown5; have K5 := Lib.hid ((KA.out.then HRR.out.kept).trans hk5 (T := fun _ => False) (fun _ _ h => h) (fun i hi e => by simp [Value.ownBlock] at e; omega)); clear hown5 hk5)
    | (refine step_append_strs (by rfl) _ _ (by rfl) (by rfl) w2.heap.size (.slice (some ⟨w2.heap.size, 0, none⟩) 1 1) _ [p] r (by rfl) (by rfl) (owns_one w2 p) (HRR.out.row.kept (Kept.alloc (fun _ => False) _ _) (fun _ _ h => h)) (by have := HRR.out.len; have := HLL.out; simp; omega) (by simp) ?_; intro a' c' w5 hown5 hk5; have H5 := Lib.hid (OwnS.low (B' := wA.heap.size) hown5 (by have := HRR.out.kept.size; simp at this; omega)); have K5 := Lib.hid (((KB.out.then HRR.out.kept).then (Kept.alloc _ _ _)).trans hk5 (T := fun _ => False) (fun _ _ h => h) (fun i hi e => by have := HRR.out.kept.size; simp at this; simp [Value.ownBlock] at e; omega)); clear hown5 hk5))
  all_goals
    go_wp2_with fail
    go_ret
    exact ⟨_, r, rfl, (by have h5 : OwnS _ w.heap.size _ (p :: r) := OwnS.low (B' := w.heap.size) ⟨H5.out.own⟩ (by have := HSZ.out; omega); exact h5), HRR.out.sorted, HRR.out.mem, HRR.out.len, (fun k hk => by have := H5.out.lt k hk; have := HSZ.out; omega), HK0.out.then K5.out⟩

theorem below_yes (w : World) (g : Nat) (mv : Value) (ts : List ByteArray) (p : ByteArray) (h : TreeL w g mv ts) (hts : ∀ s ∈ ts, IsPath s) (hl : ts.length ≤ 50000) (hp : p.size ≤ 1000000) (hn : hasS ts p = true) :
    Calls Tryd.prog 11 #[.pointer (some ⟨g, 0, none⟩), .string p] w fun e w' => ∃ v r, e = .returned v ∧ Strs w' v (p :: r) ∧ SortedP r ∧ (∀ x, x ∈ r ↔ x ∈ ts ∧ keepBe p x = true) ∧ r.length ≤ ts.length ∧ (∀ k, v.ownBlock = some k → w.heap.size ≤ k) ∧ Kept (fun _ => False) w w' := by
  refine (below_own w g mv ts p h hts hl hp hn).mono ?_
  rintro e w' ⟨v, r, he, ho, hr⟩
  exact ⟨v, r, he, Strs.ofOwn ho, hr⟩
end Go.Proofs.YtndedphkgkmckaaDoor
