/-
  A slice of strings that came in; slices.Clone of strings.
-/
import Derived.Test.YtbmkfacmbjnkaaaDoorStO
import Derived.Test.YtbmkfacmbjnkaaaDoorArgIn
import Derived.SliceStrings
import Derived.OpenShut
import Derived.Lib.SmallJoins
import Derived.Deep.AppendLies
namespace Go.Proofs.YtbmkfacmbjnkaaaDoor
open Go.RowKit Go.ChangeShapes Go.WideShapes Go.ChangeAt Go.Joins
set_option linter.unusedSimpArgs false
set_option linter.unusedVariables false

theorem strv_getD (xs : List ByteArray) (i : Nat) (hi : i < xs.length) : (xs.map Value.string)[i]? = some (.string (xs.getD i ⟨#[]⟩)) := by simp [List.getD, hi]

set_option maxRecDepth 100000 in
set_option maxHeartbeats 800000 in
theorem sclone_any (v : Value) (xs : List ByteArray) (w : World) (h : Strs w v xs) (hl : xs.length ≤ 256) :
    Calls Tryd.prog 26 #[v] w fun e w' => ∃ v', e = .returned v' ∧ w'.ownsRow w.heap.size 9 1 v' xs.length (xs.map Value.string) ∧ Kept (fun _ => False) w w' := by
  obtain ⟨i0, hi, hz0, hz1, hz2⟩ := info_parts info_strS
  have q := fun (W : World) (a : Option Addr) (n c n' c' : Nat) => Lib.run_eql_slice_nil (P := Tryd.prog) W 24 9 a n c n' c' Tryd.underlying24
  rcases h with ⟨rfl, rfl⟩ | ⟨g, off, cap, rfl, h1, h2, h3, h4⟩
  · go_enter Tryd.func26, Tryd.ntmps26
    go_wp2_with fail
    go_ret
    exact ⟨_, rfl, World.ownsRow_nil _ _ _ _, Kept.refl _ _⟩
  · have hown : (w.alloc (.cells #[] 9)).ownsRow w.heap.size 9 1 (.slice (some ⟨w.heap.size, 0, none⟩) 0 0) 0 [] := ⟨by simp, Or.inr ⟨w.heap.size, 0, #[], rfl, Nat.le_refl _, heap_alloc_new w _, Nat.le_refl _, Nat.zero_le _, by simp, by simp⟩⟩
    have hnews : ∀ j u, (xs.map Value.string)[j]? = some u → (w.alloc (.cells #[] 9)).cell? ((⟨g, off, none⟩ : Addr).add j) = some u := fun j u hu => by
      have hadd : (⟨g, off, none⟩ : Addr).add j = ⟨g, off + j, none⟩ := by unfold Addr.add; split <;> simp_all
      have hj : j < xs.length := by
        have := (List.getElem?_eq_some_iff.1 hu).1
        simpa using this
      rw [hadd, World.cell?_alloc_past _ _ _ h3, h4 j hj, ← strv_getD xs j hj]; exact hu
    have hone : ∀ u ∈ xs.map Value.string, u.oneCell' = true := fun u hu => by
      simp only [List.mem_map] at hu
      obtain ⟨s, _, rfl⟩ := hu
      rfl
    obtain ⟨n, hn⟩ : ∃ n, n = xs.length := ⟨_, rfl⟩
    have hlen : (xs.map Value.string).length = n * 1 := by simp [hn]
    rw [← hn] at hl ⊢
    have HO := Lib.hid hown; have HN := Lib.hid hnews; have H1 := Lib.hid hone; have HL := Lib.hid hlen
    clear hown hnews hone hlen h1 h2 h3 h4 hn
    generalize xs.map Value.string = vs at *
    go_enter Tryd.func26, Tryd.ntmps26
    go_wp2_with (at_builtin; refine wpList_append_own_at _ rfl _ _ _ rfl w.heap.size 9 i0 _ 1 16 Tryd.underlying24 hi hz0 hz1 hz2 rfl (by omega) (.slice (some ⟨w.heap.size, 0, none⟩) 0 0) 0 [] rfl HO.out ⟨g, off, none⟩ n cap vs rfl HL.out HN.out H1.out (by unfold maxLen; omega) (by omega) (by simp) ?_)
    intro v' w1 hown1 hgrow _ hat
    have hk := (Kept.alloc (fun _ => False) w (.cells #[] 9)).trans (T := fun _ => False) (Kept.ofGrown (S := fun k => k = w.heap.size) hgrow (fun k e => by simp [Value.ownBlock] at e; exact e.symm)) (fun _ _ h => h) (fun i hi e => by omega)
    have HO1 := Lib.hid hown1; have HK := Lib.hid hk
    clear hown1 hgrow hat hk
    go_wp2
    go_ret
    exact ⟨_, rfl, by simpa using HO1.out, HK.out⟩


/-- Strings of a call's argument: they lie in memory, or there is none, at whatever address. -/
def StrsIn (w : World) (v : Value) (xs : List ByteArray) : Prop := Strs w v xs ∨ ∃ x, v = .slice (some x) 0 0 ∧ xs = []
theorem StrsIn.form {w : World} {v : Value} {xs : List ByteArray} (h : StrsIn w v xs) : ∃ a c, v = .slice a xs.length c ∧ xs.length ≤ c ∧ c ≤ maxLen := by
  rcases h with h | ⟨x, rfl, rfl⟩
  · exact h.form
  · exact ⟨_, _, rfl, Nat.le_refl _, Nat.zero_le _⟩
theorem StrsIn.at {w : World} {a : Option Addr} {n c k : Nat} {xs : List ByteArray} (h : StrsIn w (.slice a n c) xs) (hk : k < xs.length) :
    ∃ g off, a = some ⟨g, off, none⟩ ∧ g < w.heap.size ∧ w.cell? ⟨g, off + k, none⟩ = some (.string (xs.getD k ⟨#[]⟩)) := by
  rcases h with (⟨_, rfl⟩ | ⟨g, off, cap, h, h1, h2, h3, h4⟩) | ⟨_, _, rfl⟩
  · simp at hk
  · cases h; exact ⟨g, off, rfl, h3, h4 k hk⟩
  · simp at hk
theorem StrsIn.kept {a b : World} {v : Value} {xs : List ByteArray} (h : StrsIn a v xs) (hk : Kept (fun _ => False) a b) : StrsIn b v xs := by
  rcases h with h | h
  · exact Or.inl (h.kept hk (fun _ _ h => h))
  · exact Or.inr h

set_option maxRecDepth 100000 in
theorem strs_in {H : Type} {enc : TypeId × Value → H} {W : World} {base : Nat} {v : Value} {d : DataW H} {p : List MemPlace} (o : Value.okWide Tryd.prog W .any base 24 v) (h : DataW.Trod enc Tryd.prog W 0 (fun _ => true) true 24 v d p) :
    ∃ xs, StrsIn W v xs ∧ ∀ s ∈ xs, s.size ≤ maxLen := by
  obtain ⟨a, len, cap, rfl⟩ := okWide_slice Tryd.underlying24 o
  obtain ⟨fuel, hf⟩ := h
  rcases Go.ChangeShapes.open_strings Tryd.underlying24 Tryd.underlying9 (by kernel_rfl) hf with ⟨hcs, _⟩ | ⟨x, l, c, ss, hcs, _, hl, hm, hz, _, hcell, hw⟩
  · simp [Value.cells] at hcs
    obtain ⟨rfl, rfl, rfl⟩ := hcs
    exact ⟨[], Or.inl (Or.inl ⟨rfl, rfl⟩), by simp⟩
  · simp [Value.cells] at hcs
    obtain ⟨rfl, rfl, rfl⟩ := hcs
    simp only [if_true] at hz
    by_cases h0 : cap = 0
    · subst h0
      obtain rfl : len = 0 := by omega
      exact ⟨[], Or.inr ⟨x, rfl, rfl⟩, by simp⟩
    · have h1 := hcell 0 (by omega)
      rw [show x.add 0 = x from rfl] at h1
      have hs := World.cell?_spot h1
      have hb := World.block_lt_of_cell? W _ h1
      obtain ⟨g, off, spot⟩ := x
      simp only at hs hb
      subst hs
      have hlen : (ss.take len).length = len := by simp; omega
      refine ⟨ss.take len, Or.inl (Or.inr ⟨g, off, cap, by rw [hlen], by omega, hm, hb, fun i hi => ?_⟩), fun s hs => hw s (List.mem_of_mem_take hs)⟩
      rw [hlen] at hi
      have hadd : (⟨g, off, none⟩ : Addr).add i = ⟨g, off + i, none⟩ := by unfold Addr.add; split <;> simp_all
      have := hcell i (by omega)
      rw [hadd] at this
      rw [this]
      have hil : i < ss.length := by omega
      simp [List.getD, hi, hil]
end Go.Proofs.YtbmkfacmbjnkaaaDoor
