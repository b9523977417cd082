/-
  Assignments: slices.Clone of entries.
-/
import Derived.Test.YtccanbjnbmihgaaDoorMbE
import Derived.Laws.AppendOwnNone
import Derived.Lib.Hide
import Derived.Lib.SliceRun
import Derived.Shelf.Abstract
namespace Go.Proofs.YtccanbjnbmihgaaDoor
open Go.RowKit Go.Shelf
set_option linter.unusedSimpArgs false
set_option linter.unusedVariables false

theorem info_ent : (Tryd.prog.info? 87).map (fun i => (i.zero, i.size, i.bytes)) = some (some (.agg #[.int .i64 0, .int .i64 0, .int .i64 0]), 3, 24) := by kernel_rfl
theorem Ents.flat {w : World} {g off n c : Nat} {l : List Ent} (h : Ents w (.slice (some ⟨g, off, none⟩) n c) l) : ∀ j u, (flatE l)[j]? = some u → w.cell? ⟨g, off + j, none⟩ = some u := fun j u hu => by
  have hj : j < l.length * 3 := by
    have := (List.getElem?_eq_some_iff.1 hu).1
    rwa [flatE_length] at this
  rcases h with ⟨h, _⟩ | ⟨g', off', cap, h, _, _, _, h4⟩
  · cases h
  · cases h
    have hi : j / 3 < l.length := by omega
    obtain ⟨a0, a1, a2⟩ := flatE_at l (j / 3) hi
    obtain ⟨c0, c1, c2⟩ := h4 (j / 3) hi
    have hr : j % 3 = 0 ∨ j % 3 = 1 ∨ j % 3 = 2 := by omega
    rcases hr with e | e | e
    · rw [show j = j / 3 * 3 by omega] at hu ⊢
      rw [a0] at hu; injection hu with hu; subst hu; exact c0
    · rw [show j = j / 3 * 3 + 1 by omega] at hu ⊢
      rw [a1] at hu; injection hu with hu; subst hu; exact c1
    · rw [show j = j / 3 * 3 + 2 by omega] at hu ⊢
      rw [a2] at hu; injection hu with hu; subst hu; exact c2
theorem flatE_one (l : List Ent) : ∀ u ∈ flatE l, u.oneCell' = true := fun u hu => by
  simp only [flatE, List.mem_flatMap, entC, List.mem_cons, List.mem_nil_iff, or_false] at hu
  obtain ⟨x, _, rfl | rfl | rfl⟩ := hu <;> rfl

set_option maxRecDepth 100000 in
set_option maxHeartbeats 800000 in
theorem eclone_any (v : Value) (l : List Ent) (w : World) (h : Ents w v l) (hl : l.length ≤ 1000000) :
    Calls Tryd.prog 50 #[v] w fun e w' => ∃ v', e = .returned v' ∧ OwnE 87 w.heap.size w' v' l ∧ Kept (fun _ => False) w w' := by
  obtain ⟨i0, hi, hz0, hz1, hz2⟩ := info_parts info_ent
  have q := fun (W : World) (a : Option Addr) (n c n' c' : Nat) => Lib.run_eql_slice_nil (P := Tryd.prog) W 85 87 a n c n' c' Tryd.underlying85
  have h0 := h
  rcases h with ⟨rfl, rfl⟩ | ⟨g, off, cap, rfl, h1, h2, h3, h4⟩
  · go_enter Tryd.func50, Tryd.ntmps50
    go_wp2_with fail
    go_ret
    exact ⟨_, rfl, OwnE.nil _ _ _, Kept.refl _ _⟩
  · have hown : (w.alloc (.cells #[] 87)).ownsRow w.heap.size 87 3 (.slice (some ⟨w.heap.size, 0, none⟩) 0 0) 0 [] := ⟨by simp, Or.inr ⟨w.heap.size, 0, #[], rfl, Nat.le_refl _, heap_alloc_new w _, Nat.le_refl _, Nat.zero_le _, by simp, by simp⟩⟩
    have hnews : ∀ j u, (flatE l)[j]? = some u → (w.alloc (.cells #[] 87)).cell? ((⟨g, off, none⟩ : Addr).add j) = some u := fun j u hu => by
      have hadd : (⟨g, off, none⟩ : Addr).add j = ⟨g, off + j, none⟩ := by unfold Addr.add; split <;> simp_all
      rw [hadd, World.cell?_alloc_past _ _ _ h3]
      exact h0.flat j u hu
    have hone := flatE_one l
    obtain ⟨n, hn⟩ : ∃ n, n = l.length := ⟨_, rfl⟩
    have hlen : (flatE l).length = n * 3 := by rw [flatE_length, hn]
    unfold OwnE
    rw [← hn] at hl ⊢
    have HO := Lib.hid hown; have HN := Lib.hid hnews; have H1 := Lib.hid hone; have HL := Lib.hid hlen
    clear hown hnews hone hlen h0 h1 h2 h3 h4 hn
    generalize flatE l = vs at *
    go_enter Tryd.func50, Tryd.ntmps50
    go_wp2_with (at_builtin; refine wpList_append_own_at _ rfl _ _ _ rfl w.heap.size 87 i0 _ 3 24 Tryd.underlying85 hi hz0 hz1 hz2 rfl (by omega) (.slice (some ⟨w.heap.size, 0, none⟩) 0 0) 0 [] rfl HO.out ⟨g, off, none⟩ n cap vs rfl HL.out HN.out H1.out (by unfold maxLen; omega) (by omega) (by simp) ?_)
    intro v' w1 hown1 hgrow _ hat
    have hk := (Kept.alloc (fun _ => False) w (.cells #[] 87)).trans (T := fun _ => False) (Kept.ofGrown (S := fun k => k = w.heap.size) hgrow (fun k e => by simp [Value.ownBlock] at e; exact e.symm)) (fun _ _ h => h) (fun i hi e => by omega)
    have HO1 := Lib.hid hown1; have HK := Lib.hid hk
    clear hown1 hgrow hat hk
    go_wp2
    go_ret
    exact ⟨_, rfl, by simpa using HO1.out, HK.out⟩

end Go.Proofs.YtccanbjnbmihgaaDoor
