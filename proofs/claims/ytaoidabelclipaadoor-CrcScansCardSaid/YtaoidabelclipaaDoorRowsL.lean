/-
  Rows of one's own: their form and their cells; rows of integers.
-/
import Derived.Test.YtaoidabelclipaaDoorCrcX
namespace Go.Proofs.YtaoidabelclipaaDoor
open Go.RowKit

theorem own_at {w : World} {B : Nat} {e : TypeId} {a : Option Addr} {n l c : Nat} {xs : List Value} (h : w.ownsRow B e 1 (.slice a l c) n xs) (i : Nat) (hi : i < n) (u : Value) (hu : xs[i]? = some u) :
    ∃ g off, a = some ⟨g, off, none⟩ ∧ l = n ∧ B ≤ g ∧ g < w.heap.size ∧ w.cell? ⟨g, off + i, none⟩ = some u := by
  have hcell := fun g (hg : (Value.slice a l c).ownBlock = some g) => h.cells hg
  rcases h.2 with ⟨h1, h0⟩ | ⟨g, cap, cur, h1, hb, hg, _⟩
  · omega
  · cases h1
    have := hcell g rfl i u hu
    have hadd : (⟨g, 0, none⟩ : Addr).add i = ⟨g, 0 + i, none⟩ := by unfold Addr.add; split <;> simp_all
    rw [hadd] at this
    exact ⟨g, 0, rfl, rfl, hb, (Array.getElem?_eq_some_iff.1 hg).1, this⟩

theorem own_form1 {w : World} {B : Nat} {e : TypeId} {v : Value} {n : Nat} {xs : List Value} (h : w.ownsRow B e 1 v n xs) : ∃ a c, v = .slice a n c := by
  rcases h.2 with ⟨h1, h0⟩ | ⟨g, cap, cur, h1, _⟩
  · exact ⟨_, _, by rw [h1, h0]⟩
  · exact ⟨_, _, h1⟩

theorem Pays.form {w : World} {B : Nat} {v : Value} {vs : List Value} {ps : List (List Nat)} (h : Pays w B v vs ps) : ∃ a c, v = .slice a ps.length c := by
  rw [← h.len]; exact own_form1 h.own

theorem Pays.at {w : World} {B : Nat} {a : Option Addr} {l c : Nat} {vs : List Value} {ps : List (List Nat)} (h : Pays w B (.slice a l c) vs ps) {i : Nat} (hi : i < ps.length) :
    ∃ g off, a = some ⟨g, off, none⟩ ∧ g < w.heap.size ∧ w.cell? ⟨g, off + i, none⟩ = some (vs.getD i (.bool false)) ∧ Reads w (vs.getD i (.bool false)) (ps.getD i []) := by
  obtain ⟨g, off, h1, _, _, h2, h3⟩ := own_at h.own i (by rw [h.len]; exact hi) (vs.getD i (.bool false)) (by simp [List.getD, show i < vs.length by rw [h.len]; exact hi])
  exact ⟨g, off, h1, h2, h3, h.el i hi⟩

theorem info_int : (Tryd.prog.info? 3).map (fun i => (i.zero, i.size, i.bytes)) = some (some (.int .i64 0), 1, 8) := by kernel_rfl

/-- A row of integers of one's own. -/
def IntsO (w : World) (B : Nat) (v : Value) (xs : List Int) : Prop := w.ownsRow B 3 1 v xs.length (xs.map (Value.int .i64))
theorem IntsO.nil (w : World) (B : Nat) : IntsO w B (.slice none 0 0) [] := World.ownsRow_nil _ _ _ _
theorem IntsO.form {w : World} {B : Nat} {v : Value} {xs : List Int} (h : IntsO w B v xs) : ∃ a c, v = .slice a xs.length c := own_form1 h
theorem IntsO.at {w : World} {B : Nat} {a : Option Addr} {l c : Nat} {xs : List Int} (h : IntsO w B (.slice a l c) xs) {i : Nat} (hi : i < xs.length) :
    ∃ g off, a = some ⟨g, off, none⟩ ∧ g < w.heap.size ∧ w.cell? ⟨g, off + i, none⟩ = some (.int .i64 (xs.getD i 0)) := by
  obtain ⟨g, off, h1, _, _, h2, h3⟩ := own_at h i hi (.int .i64 (xs.getD i 0)) (by simp [List.getD, hi])
  exact ⟨g, off, h1, h2, h3⟩
theorem IntsO.kept {S : Nat → Prop} {a b : World} {B : Nat} {v : Value} {xs : List Int} (h : IntsO a B v xs) (hk : Kept S a b) (hn : ∀ k, v.ownBlock = some k → ¬ S k) : IntsO b B v xs := hk.owns h hn

theorem LB.cut {w : World} {a : Option Addr} {c : Nat} {f : Nat → Value} {F : Nat → List Nat} {N B : Nat} (h : LB w (.slice a N c) f F N B) (K : Nat) (hK : K ≤ N) : LB w (.slice a K c) f F K B := by
  rcases h with ⟨⟨a', c', h, hc⟩, rfl⟩ | ⟨g, off, cap, h, hc, h3⟩
  · obtain rfl : K = 0 := by omega
    cases h
    exact Or.inl ⟨⟨_, _, rfl, hc⟩, rfl⟩
  · cases h
    exact Or.inr ⟨g, off, _, rfl, by omega, fun i hi => h3 i (by omega)⟩

/-- The first k of the payloads that came in, each of at most 300 bytes. -/
def psN (F : Nat → List Nat) (k : Nat) : List (List Nat) := (List.range k).map fun i => (F i).take 300
theorem psN_zero (F : Nat → List Nat) : psN F 0 = [] := rfl
theorem psN_succ (F : Nat → List Nat) (k : Nat) : psN F (k + 1) = psN F k ++ [(F k).take 300] := by simp [psN, List.range_succ]
theorem psN_length (F : Nat → List Nat) (k : Nat) : (psN F k).length = k := by simp [psN]
theorem psN_getD (F : Nat → List Nat) (k i : Nat) (hi : i < k) : (psN F k).getD i [] = (F i).take 300 := by simp [psN, List.getD, hi]
theorem psN_take (F : Nat → List Nat) (k i : Nat) (hi : i ≤ k) : (psN F k).take i = psN F i := by
  unfold psN
  rw [← List.map_take]
  congr 1
  rw [List.take_range, Nat.min_eq_left hi]
theorem psN_len (F : Nat → List Nat) (k : Nat) : ∀ p ∈ psN F k, p.length ≤ 300 := by
  intro p hp
  simp only [psN, List.mem_map] at hp
  obtain ⟨i, _, rfl⟩ := hp
  simp; omega
theorem psN_byte {F : Nat → List Nat} {k : Nat} (h : ∀ i, i < k → ∀ x ∈ F i, x < 256) : ∀ p ∈ psN F k, ∀ x ∈ p, x < 256 := by
  intro p hp x hx
  simp only [psN, List.mem_map, List.mem_range] at hp
  obtain ⟨i, hi, rfl⟩ := hp
  exact h i hi x (List.mem_of_mem_take hx)
theorem frs_psN_len (F : Nat → List Nat) (k : Nat) : (frs (psN F k)).length ≤ 308 * k := by
  induction k with
  | zero => simp [psN_zero, frs_nil]
  | succ k ih =>
    rw [psN_succ, frs_snoc, List.length_append, frameS_length]
    have : ((F k).take 300).length ≤ 300 := by simp; omega
    omega
def endN (F : Nat → List Nat) (k : Nat) : List Int := (List.range k).map fun i => ((frs (psN F (i + 1))).length : Int)
theorem endN_succ (F : Nat → List Nat) (k : Nat) : endN F (k + 1) = endN F k ++ [((frs (psN F (k + 1))).length : Int)] := by simp [endN, List.range_succ]
theorem endN_length (F : Nat → List Nat) (k : Nat) : (endN F k).length = k := by simp [endN]
theorem endN_getD (F : Nat → List Nat) (k i : Nat) (hi : i < k) : (endN F k).getD i 0 = ((frs (psN F (i + 1))).length : Int) := by simp [endN, List.getD, hi]
end Go.Proofs.YtaoidabelclipaaDoor
