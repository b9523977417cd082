/-
  Trees of paths in memory: what their maps say; maps.Copy, copied, NewTree, Len.
-/
import Derived.Test.YtndedphkgkmckaaDoorPaO
import Derived.Maps.Own
import Derived.Maps.OwnSet
import Derived.Maps.OwnOps
import Derived.Maps.RangeWalk
import Derived.Maps.Ext
import Derived.Laws.BytesArg
import Derived.StillTailTactics
namespace Go.Proofs.YtndedphkgkmckaaDoor
open Go.RowKit Go.Maps Go.WideMaps Go.ChangeMaps
set_option linter.unusedSimpArgs false
set_option linter.unusedVariables false

theorem lawT : Keyed Tryd.prog 9 := string_keyed Tryd.underlying9
theorem zeroBl (w : World) : (zeroValue 4).run Tryd.prog w = .ok (.bool false) w := by kernel_rfl
theorem pl_bool (x : Bool) : plainElem (H := Unit) Tryd.prog 4 (.bool x) = some (.lit (.bool x), []) := plainElem_bool Tryd.underlying4 x
set_option maxRecDepth 100000 in
theorem pl_bool_inv {v : Value} {z : DataW Unit × List MemPlace} (h : plainElem Tryd.prog 4 v = some z) : ∃ x, v = .bool x ∧ z = (.lit (.bool x), []) := by
  unfold plainElem at h
  rw [Tryd.underlying4] at h
  cases v <;> simp at h
  exact ⟨_, rfl, h.symm⟩
set_option maxRecDepth 100000 in
theorem key_invT {v : Value} {kl : Lit} (h : keyOf Tryd.prog 9 v = some kl) : ∃ s : ByteArray, v = .string s ∧ kl = .string s.data.toList ∧ s.size ≤ maxLen := by
  rw [keyOf_string Tryd.underlying9] at h
  unfold mapKey at h
  cases v <;> simp [Tryd.underlying9] at h
  rename_i s
  exact ⟨s, rfl, h.2.symm, h.1⟩
theorem key_neT {s y : ByteArray} (h : s ≠ y) : Lit.string s.data.toList ≠ Lit.string y.data.toList := fun e => by
  injection e with e
  exact h (str_ext e)

/-- A bool's value by a number (the walk parts a '∀' over Bool). -/
def vB (c : Nat) : Value := .bool (decide (c = 1))
theorem pl_vB_inv {v : Value} {z : DataW Unit × List MemPlace} (h : plainElem Tryd.prog 4 v = some z) : ∃ c, v = vB c := by
  obtain ⟨x, rfl, _⟩ := pl_bool_inv h
  cases x with
  | false => exact ⟨0, rfl⟩
  | true => exact ⟨1, rfl⟩

abbrev OwnMB (w : World) (m n : Nat) (D : DataW Unit) : Prop := w.ownsMap Tryd.prog 9 (plainElem Tryd.prog 4) m n D
theorem ownMB_kept {S : Nat → Prop} {a b : World} {m n : Nat} {D : DataW Unit} (h : OwnMB a m n D) (hk : Kept S a b) (hn : ¬ S m) : OwnMB b m n D := by
  have hlt := h.lt
  obtain ⟨es, clock, h1, h2⟩ := h
  exact ⟨es, clock, (hk.block m hlt hn).trans h1, h2⟩

/-- What a tree's map says: which paths it has. -/
def MapB (D : DataW Unit) (M : ByteArray → Bool) : Prop :=
  ∀ s : ByteArray, Maps.has D (.string s.data.toList) = M s ∧ (D.atKey (.string s.data.toList) (.lit (.bool false)) = .lit (.bool (M s)))
theorem MapB.nil : MapB (.map []) (fun _ => false) := fun s => ⟨by simp [Maps.has], rfl⟩
theorem MapB.put {D : DataW Unit} {M : ByteArray → Bool} (y : ByteArray) (h : MapB D M) (hD : IsMap D) : MapB (D.put (.string y.data.toList) (.lit (.bool true))) (fun s => decide (s = y) || M s) := fun s => by
  by_cases e : s = y
  · subst e
    exact ⟨by rw [has_put_same (k := .string s.data.toList) hD trivial]; simp, by rw [atKey_put_same (k := .string s.data.toList) hD trivial]; simp⟩
  · rw [has_put_other (key_neT e), atKey_put_other (key_neT e)]
    simp [e]
    exact h s
theorem MapB.del {D : DataW Unit} {M : ByteArray → Bool} (y : ByteArray) (h : MapB D M) : MapB (D.del (.string y.data.toList)) (fun s => decide (s ≠ y) && M s) := fun s => by
  by_cases e : s = y
  · subst e
    exact ⟨by rw [has_del_same]; simp, by rw [atKey_del_same]; simp⟩
  · rw [has_del_other (key_neT e), atKey_del_other (key_neT e)]
    simp [e]
    exact h s

/-- A map of paths: none, or one in memory; how many paths it has. -/
def MapV (w : World) (mv : Value) (M : ByteArray → Bool) (c : Nat) : Prop :=
  (mv = .map none ∧ (∀ s, M s = false) ∧ c = 0) ∨ ∃ m n D, mv = .map (some m) ∧ OwnMB w m n D ∧ MapB D M ∧ Maps.size D = c ∧ n ≤ 100000
def mapBlk : Value → Option Nat
  | .map (some m) => some m
  | _ => none
theorem MapV.kept {S : Nat → Prop} {a b : World} {mv : Value} {M : ByteArray → Bool} {c : Nat} (h : MapV a mv M c) (hk : Kept S a b) (hn : ∀ m, mapBlk mv = some m → ¬ S m) : MapV b mv M c := by
  rcases h with h | ⟨m, n, D, rfl, h1, h2, h3, h4⟩
  · exact Or.inl h
  · exact Or.inr ⟨m, n, D, rfl, ownMB_kept h1 hk (hn m rfl), h2, h3, h4⟩

/-- A tree in memory. -/
structure TreeAt (w : World) (g : Nat) (mv : Value) (M : ByteArray → Bool) (c : Nat) : Prop where
  cell : w.cell? ⟨g, 0, none⟩ = some mv
  map : MapV w mv M c
theorem TreeAt.lt {w : World} {g : Nat} {mv : Value} {M : ByteArray → Bool} {c : Nat} (h : TreeAt w g mv M c) : g < w.heap.size := World.block_lt_of_cell? w _ h.cell
theorem MapV.lt {w : World} {mv : Value} {M : ByteArray → Bool} {c : Nat} (h : MapV w mv M c) : ∀ m, mapBlk mv = some m → m < w.heap.size := by
  intro m hm
  rcases h with ⟨rfl, _⟩ | ⟨m', n, D, rfl, h1, _⟩
  · cases hm
  · have : m' = m := by simpa [mapBlk] using hm
    subst this; exact h1.lt
theorem TreeAt.kept {S : Nat → Prop} {a b : World} {g : Nat} {mv : Value} {M : ByteArray → Bool} {c : Nat} (h : TreeAt a g mv M c) (hk : Kept S a b) (h1 : ¬ S g) (hn : ∀ m, mapBlk mv = some m → ¬ S m) : TreeAt b g mv M c :=
  ⟨(hk.cell (p := ⟨g, 0, none⟩) h.lt h1).trans h.cell, h.map.kept hk hn⟩
theorem TreeAt.stay {a b : World} {g : Nat} {mv : Value} {M : ByteArray → Bool} {c : Nat} (h : TreeAt a g mv M c) (hk : Kept (fun _ => False) a b) : TreeAt b g mv M c := h.kept hk (fun h => h) (fun _ _ h => h)

set_option maxRecDepth 100000 in
theorem newTree_any (w : World) : Calls Tryd.prog 33 #[] w fun e w' => ∃ g, e = .returned (.pointer (some ⟨g, 0, none⟩)) ∧ TreeAt w' g (.map none) (fun _ => false) 0 ∧ w.heap.size ≤ g ∧ Kept (fun _ => False) w w' := by
  have ht : TreeAt (w.alloc (.cells #[.map none] 69)) w.heap.size (.map none) (fun _ => false) 0 := ⟨by go_simp, Or.inl ⟨rfl, fun _ => rfl, rfl⟩⟩
  have HT := Lib.hid ht
  have HK := Lib.hid (Kept.alloc (fun _ => False) w (.cells #[.map none] 69))
  clear ht
  go_enter Tryd.func33, Tryd.ntmps33
  go_wp2_with fail
  go_ret
  exact ⟨_, rfl, HT.out, Nat.le_refl _, HK.out⟩

set_option maxRecDepth 100000 in
theorem tlenP_any (w : World) (g : Nat) (mv : Value) (M : ByteArray → Bool) (c : Nat) (h : TreeAt w g mv M c) :
    Calls Tryd.prog 9 #[.pointer (some ⟨g, 0, none⟩)] w fun e w' => e = .returned (.int .i64 (c + 1 : Nat)) ∧ w = w' := by
  have hc := h.cell
  rcases h.map with ⟨rfl, _, rfl⟩ | ⟨m, n, D, rfl, h1, h2, h3, h4⟩
  · have hl := fun ty => Maps.len_nil (P := Tryd.prog) (w := w) Tryd.underlying67 ty
    clear h
    go_enter Tryd.func9, Tryd.ntmps9
    go_wp2_with fail
    go_ret
    exact ⟨rfl, rfl⟩
  · have hl := fun ty => h1.len Tryd.underlying67 ty
    have hsz := h1.size_le
    rw [h3] at hl hsz
    have hw : IntKind.i64.wrap (1 + (c : Int)) = ((c + 1 : Nat) : Int) := by rw [IntWalk.i64_in _ (by omega)]; omega
    clear h h1 h2 h3
    go_enter Tryd.func9, Tryd.ntmps9
    go_wp2_with fail
    go_ret
    exact ⟨by first | rfl | (simp only [hw]; done) | simp [hw], rfl⟩

set_option maxRecDepth 100000 in
set_option maxHeartbeats 1600000 in
theorem mcopyB_any (bd bs n : Nat) (D0 : DataW Unit) (w : World) (hd : OwnMB w bd 0 (.map [])) (hs : OwnMB w bs n D0) (hne : bd ≠ bs) (hmax : Maps.size D0 ≤ 100000) :
    Calls Tryd.prog 65 #[.map (some bd), .map (some bs)] w fun e w' => e = .returned (.tuple #[]) ∧ OwnMB w' bd (Maps.size D0) D0 ∧ Kept (fun k => k = bd) w w' := by
  have hdl := hd.lt
  have hsl := hs.lt
  have HD := Lib.hid hd; have HS := Lib.hid hs
  clear hd hs
  go_enter Tryd.func65, Tryd.ntmps65
  go_wp2_with (first
    | (at_range; refine wpList_range_own _ rfl _ 67 rfl 9 4 lawT Tryd.underlying67 _ bs n _ rfl HS.out ?_; intro w0 hrg0 hg0 hs0)
    | go_in)
  go_frame
  go_loopw [4, 5] (fun _ _ wr => ∃ (left : Lit → Bool) (cnt : Nat) (Dout : DataW Unit), wr.ranges Tryd.prog 9 (plainElem Tryd.prog 4) bs w.heap.size n D0 left cnt ∧ cnt ≤ Maps.size D0 ∧
      OwnMB wr bd (Maps.size D0 - cnt) Dout ∧ Agree Dout D0 left ∧ Kept (fun k => k = bd) w wr)
    (fun _ _ wr => wr.rangeLeft bs w.heap.size)
  case atStart =>
    exact ⟨_, _, .map [], hrg0, Nat.le_refl _, (HD.out.kept hg0 (by simp)).mono (Nat.zero_le _), agree_start D0, Kept.ofGrown hg0 (fun k e => by cases e)⟩
  case round =>
    obtain ⟨left, cnt, Dout, hrg, hcs, hout, hA, hnx⟩ := hrel
    go_wp2_with (first
      | (at_next; refine wpList_next_ranges _ rfl _ rfl 9 lawT (plainElem Tryd.prog 4) Value.string vB (fun key kl h => by obtain ⟨s, rfl, _⟩ := key_invT h; exact ⟨s, rfl⟩) (fun v y h => pl_vB_inv h) bs w.heap.size n _ _ _ rfl hrg ?_ ?_)
      | go_in)
    · intro hc0 hl0
      go_wp2
      go_end0
      subst hc0
      have e := agree_end hA hl0 (hout.canon lawT) (HS.out.canon lawT)
      subst e
      exact ⟨rfl, by simpa using hout, hnx⟩
    · intro x c kl y ys w1 cnt1 hkey hlx hv hat hrg1 hlt hg1 hs1 hen
      obtain ⟨x', ex, rfl, hxs⟩ := key_invT hkey
      cases ex
      have hvb : vB c = .bool (decide (c = 1)) := rfl
      rw [hvb] at hv hen ⊢
      generalize decide (c = 1) = cb at hv hen ⊢
      obtain ⟨c', ec, ey⟩ := pl_bool_inv hv
      cases ec
      cases ey
      clear hvb
      have hout1 := hout.kept hg1 (by simp; omega)
      go_wp2_with (first
        | (at_mapUpdate; refine wpList_mapUpdate_own _ rfl _ _ _ 67 rfl 9 4 lawT Tryd.underlying67 _ bd _ _ rfl hout1 (by unfold maxLen; omega) _ _ _ rfl rfl hkey _ [] (pl_bool cb) ?_; intro w2 hout2 hg2; go_frame)
        | go_in)
      have hrg2 := hrg1.kept hg2 (fun e => by have := Option.some.inj e; omega) (fun e => by have := Option.some.inj e; omega)
      go_roundw
      case rel =>
        exact ⟨_, cnt1, _, hrg2, by omega, hout2.mono (by omega), agree_step hA hout.isMap trivial hat,
          (hnx.trans (Kept.ofGrown (S := fun k => k = w.heap.size) hg1 (fun k e => (Option.some.inj e).symm)) (fun _ _ h => h) (fun i hi e => by omega)).trans (Kept.ofGrown (S := fun k => k = bd) hg2 (fun k e => (Option.some.inj e).symm)) (fun _ _ h => h) (fun _ _ h => h)⟩
      case measure => rw [hrg2.left_eq, hrg.left_eq]; exact hlt
end Go.Proofs.YtndedphkgkmckaaDoor
