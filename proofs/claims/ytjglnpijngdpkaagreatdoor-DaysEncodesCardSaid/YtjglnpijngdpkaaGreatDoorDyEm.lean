import Derived.Test.YtjglnpijngdpkaaGreatDoorDyIs
import Derived.Test.YtjglnpijngdpkaaGreatDoorGP
import Derived.Test.YtjglnpijngdpkaaGreatDoorGR
import Derived.Test.YtjglnpijngdpkaaGreatDoorKecG
import Derived.Lib.ConvBytes
/-
  What is written of a set of days: plain words, and a writer of the call's own.
-/
namespace Go.Proofs.YtjglnpijngdpkaaGreatDoor
open Go.RowKit
set_option linter.unusedSimpArgs false
set_option linter.unusedVariables false
set_option maxRecDepth 100000

/-- Numbers that ascend, all of them in a list, are at most as many as the list has. -/
theorem asc_sub : ∀ (A B : List Int), A.Pairwise (· < ·) → (∀ x ∈ A, x ∈ B) → A.length ≤ B.length
  | [], _, _, _ => by simp
  | x :: A, B, h, k => by
    obtain ⟨h1, h2⟩ := List.pairwise_cons.1 h
    have hx := k x (by simp)
    have ih := asc_sub A (B.erase x) h2 fun y hy => (List.mem_erase_of_ne (by have := h1 y hy; omega)).2 (k y (by simp [hy]))
    rw [List.length_erase_of_mem hx] at ih
    have := List.length_pos_of_mem hx
    simp only [List.length_cons]
    omega
theorem starts_asc : ∀ {t : List Int}, t.Pairwise (· < ·) → ((spansD t).map Prod.fst).Pairwise (· < ·) ∧ ∀ x ∈ (spansD t).map Prod.fst, x ∈ t
  | [], _ => ⟨by simp [spansD], by simp [spansD]⟩
  | [x], _ => ⟨by simp [spansD], by simp [spansD]⟩
  | x :: y :: t, h => by
    obtain ⟨h1, h2⟩ := List.pairwise_cons.1 h
    obtain ⟨h3, h4⟩ := List.pairwise_cons.1 h2
    obtain ⟨a, b⟩ := starts_asc h4
    have e : (spansD (x :: y :: t)).map Prod.fst = x :: (spansD t).map Prod.fst := rfl
    rw [e]
    refine ⟨List.pairwise_cons.2 ⟨fun z hz => h1 z (by have := b z hz; simp [this]), a⟩, fun z hz => ?_⟩
    rcases List.mem_cons.1 hz with rfl | hz
    · simp
    · have := b z hz; simp [this]
theorem spans_le {t : List Int} {l : List (Int × Int)} (hc : CanD t) (hv : ∀ d, inD t d = spanIn l d) : (spansD t).length ≤ l.length := by
  have h1 := asc_sub ((spansD t).map Prod.fst) (l.map Prod.fst) (starts_asc hc.asc).1 fun x hx => by
    obtain ⟨p, hp, rfl⟩ := List.mem_map.1 hx
    obtain ⟨e1, _, e3, _⟩ := spansD_edges hc hp
    rw [hv] at e1 e3
    unfold spanIn at e1 e3
    rw [List.any_eq_true] at e1
    rw [List.any_eq_false] at e3
    obtain ⟨q, hq, hq2⟩ := e1
    have hq3 := e3 q hq
    simp only [Bool.and_eq_true, decide_eq_true_eq] at hq2 hq3
    have : q.1 = p.1 := by omega
    exact List.mem_map.2 ⟨q, hq, this⟩
  simpa using h1
/-- The bytes of some spans. -/
def spansB : List (Int × Int) → List Nat
  | [] => []
  | p :: l => (enc p.1.toNat ++ enc p.2.toNat) ++ spansB l
theorem spansB_snoc : ∀ (l : List (Int × Int)) (p : Int × Int), spansB (l ++ [p]) = spansB l ++ (enc p.1.toNat ++ enc p.2.toNat)
  | [], p => by simp [spansB]
  | q :: l, p => by
    rw [List.cons_append]
    simp only [spansB]
    rw [spansB_snoc l p]; simp only [List.append_assoc]
theorem spansB_byte : ∀ (l : List (Int × Int)), ∀ b ∈ spansB l, b < 256
  | [], b, h => by cases h
  | p :: l, b, h => by
    simp only [spansB] at h
    rcases List.mem_append.1 h with h | h
    · rcases List.mem_append.1 h with h | h
      · exact enc_byte _ b h
      · exact enc_byte _ b h
    · exact spansB_byte l b h
theorem spansB_len : ∀ (l : List (Int × Int)), (∀ p ∈ l, okSp p) → (spansB l).length ≤ 20 * l.length
  | [], _ => by simp [spansB]
  | p :: l, h => by
    have ih := spansB_len l fun q hq => h q (by simp [hq])
    obtain ⟨a, b, c⟩ := h p (by simp)
    have e1 := enc_len (v := p.1.toNat) (by omega)
    have e2 := enc_len (v := p.2.toNat) (by omega)
    simp only [spansB, List.length_append, List.length_cons]
    omega
theorem strOf_strBD (s : ByteArray) : strOf (strB s) = s := by
  have h := strOf_bytes (strB_byte s)
  have h2 : (strOf (strB s)).data.toList.map UInt8.toNat = s.data.toList.map UInt8.toNat := h
  have h3 : (strOf (strB s)).data.toList = s.data.toList := by
    apply List.ext_getElem
    · have := congrArg List.length h2; simpa using this
    · intro i h1 h4
      have := congrArg (fun l => l[i]?) h2
      simp only [List.getElem?_map, List.getElem?_eq_getElem h1, List.getElem?_eq_getElem h4, Option.map_some, Option.some.injEq] at this
      exact UInt8.toNat_inj.1 this
  cases hx : strOf (strB s)
  cases s
  rw [hx] at h3
  congr 1
  exact Array.ext' h3
/-- A writer of the call's own. -/
structure WKD (w wr : World) (wb : Nat) (v : Value) (xs : List Nat) : Prop where
  wri : Wr wr wb v wb xs
  kept : Kept (fun _ => False) w wr
  base : w.heap.size ≤ wb
theorem WKD.step {w w1 w2 : World} {wb : Nat} {v v' : Value} {xs ys : List Nat} (h : WKD w w1 wb v xs) (hw : Wr w2 wb v' wb ys) (hs : WStep w1 w2 wb v v') : WKD w w2 wb v' ys := by
  have hb := h.base
  refine ⟨hw, h.kept.trans hs.kept (fun _ _ h => h) (fun i hi e => ?_), hb⟩
  rcases e with e | e
  · omega
  · have := (h.wri.own.lt _ e).1; omega
theorem WKD.on {w w1 w2 : World} {wb : Nat} {v : Value} {xs : List Nat} (h : WKD w w1 wb v xs) (hk : Kept (fun _ => False) w1 w2) : WKD w w2 wb v xs :=
  ⟨h.wri.kept hk (fun h => h) (fun _ _ h => h), h.kept.then hk, h.base⟩
theorem kept_bwD (w : World) (e : TypeId) (s : ByteArray) : Kept (fun _ => False) w (Lib.bytesWorld w e s) :=
  ⟨rfl, rfl, rfl, by rw [Lib.bytesWorld_size]; omega, fun k hk _ => Lib.bytesWorld_at_old w e s k hk⟩
theorem reads_bwD (w : World) (e : TypeId) (s : ByteArray) (hs : s.size ≤ 1000000) : Reads (Lib.bytesWorld w e s) (.slice (some ⟨w.heap.size, 0, none⟩) s.size (grownCap w s.size 0 e)) (strB s) := by
  have hl := strB_length s
  refine Or.inr ⟨w.heap.size, 0, _, by rw [hl], by rw [hl]; exact grownCap_ge w s.size 0 e, grownCap_le_maxLen w s.size 0 e (by unfold maxLen; omega), by rw [Lib.bytesWorld_size]; omega, fun i hi => ?_⟩
  rw [hl] at hi
  have hi2 : i < s.data.size := hi
  rw [Nat.zero_add, Lib.bytesWorld_cell w e s i hi]
  simp [strB, List.getD, Array.getElem?_eq_getElem hi2]
/-- One slice of bytes in a new block. -/
theorem lb1D (w : World) (v0 : Value) (x0 : List Nat) (T : TypeId) (fr : Nat × Nat) (h0 : Reads w v0 x0) (b0 : ∀ x ∈ x0, x < 256) :
    LB (w.alloc (.cells #[v0] T fr)) (.slice (some ⟨w.heap.size, 0, none⟩) 1 1) (fun i => [v0].getD i (.bool false)) (fun i => [x0].getD i []) 1 (w.alloc (.cells #[v0] T fr)).heap.size := by
  have hk := Kept.alloc (fun _ => False) w (.cells #[v0] T fr)
  refine Or.inr ⟨w.heap.size, 0, 1, rfl, Nat.le_refl _, fun i hi => ?_⟩
  match i, hi with
  | 0, _ => exact ⟨by rw [Nat.add_zero, cell_of_row _ w.heap.size 0 _ T fr (heap_alloc_new w _)]; rfl, by simp, Or.inl ⟨h0.kept hk (fun _ _ h => h), fun j hj => by have := h0.lt j hj; simp; omega⟩, b0⟩
end Go.Proofs.YtjglnpijngdpkaaGreatDoor
