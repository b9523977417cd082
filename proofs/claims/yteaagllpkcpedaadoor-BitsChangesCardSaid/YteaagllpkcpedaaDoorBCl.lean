/-
  bits: slices.Clone of words; Below; Minus; Without; Or; And.
-/
import Derived.Test.YteaagllpkcpedaaDoorBOpM
import Derived.Test.YteaagllpkcpedaaDoorBWith
import Derived.Test.YteaagllpkcpedaaDoorEqual
import Derived.Deep.AppendLies
import Derived.Maps.AppendAt
namespace Go.Proofs.YteaagllpkcpedaaDoor
open Go.RowKit

set_option maxRecDepth 100000 in
set_option maxHeartbeats 800000 in
theorem uclone_any (v : Value) (xs : List Nat) (w : World) (h : Words w v xs) (hl : xs.length ≤ 63) :
    Calls Tryd.prog 43 #[v] w fun e w' => ∃ v', e = .returned v' ∧ w'.ownsRow w.heap.size 25 1 v' xs.length (wv xs) ∧ Kept (fun _ => False) w w' := by
  obtain ⟨i0, hi, hz0, hz1, hz2⟩ := info_parts info_u64
  have q := fun (W : World) (a : Option Addr) (n c n' c' : Nat) => Lib.run_eql_slice_nil (P := Tryd.prog) W 26 25 a n c n' c' Tryd.underlying26
  rcases h with ⟨rfl, rfl⟩ | ⟨g, off, cap, rfl, h1, h2, h3, h4⟩
  · go_enter Tryd.func43, Tryd.ntmps43
    go_wp2_with fail
    go_ret
    exact ⟨_, rfl, World.ownsRow_nil _ _ _ _, Kept.refl _ _⟩
  · have hown : (w.alloc (.cells #[] 25)).ownsRow w.heap.size 25 1 (.slice (some ⟨w.heap.size, 0, none⟩) 0 0) 0 [] := ⟨by simp, Or.inr ⟨w.heap.size, 0, #[], rfl, Nat.le_refl _, heap_alloc_new w _, Nat.le_refl _, Nat.zero_le _, by simp, by simp⟩⟩
    have hnews : ∀ j u, (wv xs)[j]? = some u → (w.alloc (.cells #[] 25)).cell? ((⟨g, off, none⟩ : Addr).add j) = some u := fun j u hu => by
      have hadd : (⟨g, off, none⟩ : Addr).add j = ⟨g, off + j, none⟩ := by unfold Addr.add; split <;> simp_all
      have hj : j < xs.length := by
        have := (List.getElem?_eq_some_iff.1 hu).1
        simpa [wv] using this
      rw [hadd, World.cell?_alloc_past _ _ _ h3, h4 j hj, ← wv_getD xs j hj]; exact hu
    have hone : ∀ u ∈ wv xs, u.oneCell' = true := fun u hu => by
      simp only [wv, List.mem_map] at hu
      obtain ⟨s, _, rfl⟩ := hu
      rfl
    obtain ⟨n, hn⟩ : ∃ n, n = xs.length := ⟨_, rfl⟩
    have hlen : (wv xs).length = n * 1 := by simp [wv, hn]
    rw [← hn] at hl ⊢
    have HO := Lib.hid hown; have HN := Lib.hid hnews; have H1 := Lib.hid hone; have HL := Lib.hid hlen
    clear hown hnews hone hlen h1 h2 h3 h4 hn
    generalize wv xs = vs at *
    go_enter Tryd.func43, Tryd.ntmps43
    go_wp2_with (at_builtin; refine wpList_append_own_at _ rfl _ _ _ rfl w.heap.size 25 i0 _ 1 8 Tryd.underlying26 hi hz0 hz1 hz2 rfl (by omega) (.slice (some ⟨w.heap.size, 0, none⟩) 0 0) 0 [] rfl HO.out ⟨g, off, none⟩ n cap vs rfl HL.out HN.out H1.out (by unfold maxLen; omega) (by omega) (by simp) ?_)
    intro v' w1 hown1 hgrow _ hat
    have hk := (Kept.alloc (fun _ => False) w (.cells #[] 25)).trans (T := fun _ => False) (Kept.ofGrown (S := fun k => k = w.heap.size) hgrow (fun k e => by simp [Value.ownBlock] at e; exact e.symm)) (fun _ _ h => h) (fun i hi e => by omega)
    have HO1 := Lib.hid hown1; have HK := Lib.hid hk
    clear hown1 hgrow hat hk
    go_wp2
    go_ret
    exact ⟨_, rfl, by simpa using HO1.out, HK.out⟩
end Go.Proofs.YteaagllpkcpedaaDoor
