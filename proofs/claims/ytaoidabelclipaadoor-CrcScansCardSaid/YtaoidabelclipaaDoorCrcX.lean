/-
  Slices of slices of bytes that came in; few of such an element; arbaclaw04.frames.
-/
import Derived.Test.YtaoidabelclipaaDoorCrcU
import Derived.Test.YtaoidabelclipaaDoorArgIn
namespace Go.Proofs.YtaoidabelclipaaDoor
open Go.RowKit

/-- It reads as these bytes, below block B; or it is empty, at whatever address. -/
def Loose (w : World) (v : Value) (xs : List Nat) (B : Nat) : Prop :=
  (Reads w v xs ∧ ∀ j, v.ownBlock = some j → j < B) ∨ ∃ x, v = .slice (some x) 0 0 ∧ xs = []

theorem Loose.kept {S : Nat → Prop} {a b : World} {v : Value} {xs : List Nat} {B : Nat} (h : Loose a v xs B) (hk : Kept S a b) (hS : ∀ k, k < B → ¬ S k) : Loose b v xs B := by
  rcases h with ⟨h, hb⟩ | h
  · exact Or.inl ⟨h.kept hk fun k hk => hS k (hb k hk), hb⟩
  · exact Or.inr h

theorem Loose.form {w : World} {v : Value} {xs : List Nat} {B : Nat} (h : Loose w v xs B) : ∃ a c, v = .slice a xs.length c := by
  rcases h with ⟨h, _⟩ | ⟨x, rfl, rfl⟩
  · exact h.form
  · exact ⟨_, _, rfl⟩

/-- A list of slices of bytes in memory: it is empty, or its elements lie there. -/
def LB (w : World) (v : Value) (f : Nat → Value) (F : Nat → List Nat) (N B : Nat) : Prop :=
  ((∃ a c, v = .slice a 0 c ∧ (a = none → c = 0)) ∧ N = 0) ∨
  ∃ g off cap, v = .slice (some ⟨g, off, none⟩) N cap ∧ N ≤ cap ∧ ∀ i, i < N → w.cell? ⟨g, off + i, none⟩ = some (f i) ∧ g < B ∧ Loose w (f i) (F i) B ∧ ∀ x ∈ F i, x < 256

theorem LB.kept {a b : World} {v : Value} {f : Nat → Value} {F : Nat → List Nat} {N B : Nat} (h : LB a v f F N B) (hk : Kept (fun _ => False) a b) (hB : B ≤ a.heap.size) : LB b v f F N B := by
  rcases h with h | ⟨g, off, cap, rfl, hc, h⟩
  · exact Or.inl h
  · exact Or.inr ⟨g, off, cap, rfl, hc, fun i hi => by
      obtain ⟨h1, h2, h3, h4⟩ := h i hi
      exact ⟨(hk.cell (p := ⟨g, off + i, none⟩) (by simp; omega) (fun h => h)).trans h1, h2, h3.kept hk (fun _ _ h => h), h4⟩⟩

theorem LB.form {w : World} {v : Value} {f : Nat → Value} {F : Nat → List Nat} {N B : Nat} (h : LB w v f F N B) : ∃ a c, v = .slice a N c ∧ N ≤ c := by
  rcases h with ⟨⟨a, c, rfl, _⟩, rfl⟩ | ⟨g, off, cap, rfl, hc, h⟩
  · exact ⟨a, c, rfl, Nat.zero_le _⟩
  · exact ⟨_, _, rfl, hc⟩

theorem LB.at {w : World} {a : Option Addr} {n c : Nat} {f : Nat → Value} {F : Nat → List Nat} {N B k : Nat} (h : LB w (.slice a n c) f F N B) (hk : k < N) :
    ∃ g off, a = some ⟨g, off, none⟩ ∧ g < B ∧ w.cell? ⟨g, off + k, none⟩ = some (f k) ∧ Loose w (f k) (F k) B ∧ ∀ x ∈ F k, x < 256 := by
  rcases h with ⟨_, rfl⟩ | ⟨g, off, cap, h, _, h3⟩
  · omega
  · cases h
    obtain ⟨h1, h2, h4, h5⟩ := h3 k hk
    exact ⟨g, off, rfl, h2, h1, h4, h5⟩

set_option maxRecDepth 100000 in
set_option maxHeartbeats 400000 in
theorem bclone_empty (x : Addr) (w : World) :
    Calls Tryd.prog 38 #[.slice (some x) 0 0] w fun e w' => ∃ v', e = .returned v' ∧ Fresh w' w.heap.size v' [] ∧ Kept (fun _ => False) w w' := by
  obtain ⟨i0, hi, hz0, hz1, hz2⟩ := info_parts info_u8c
  have q := fun (W : World) (a : Option Addr) (n c n' c' : Nat) => Lib.run_eql_slice_nil (P := Tryd.prog) W 22 5 a n c n' c' Tryd.underlying22
  have hown := owns_lit w w.heap.size #[] [] 0 rfl rfl (Nat.le_refl _) (by simp)
  have HO := Lib.hid hown; clear hown
  go_enter Tryd.func38, Tryd.ntmps38
  go_wp2_with (at_builtin; refine wpList_append_own_at _ rfl _ _ _ rfl w.heap.size 5 i0 _ 1 1 Tryd.underlying22 hi hz0 hz1 hz2 rfl (by omega) (.slice (some ⟨w.heap.size, 0, none⟩) 0 0) 0 [] rfl HO.out x 0 0 [] rfl rfl (by intro j u hu; simp at hu) (by simp) (by unfold maxLen; omega) (by omega) (by simp) ?_)
  intro v' w1 hown1 hgrow _ hat
  have HO1 := Lib.hid hown1; clear hown1
  have hk := (Kept.alloc (fun _ => False) w (.cells #[] 5)).trans (T := fun _ => False) (Kept.ofGrown (S := fun k => k = w.heap.size) hgrow (fun k e => by simp [Value.ownBlock] at e; exact e.symm)) (fun _ _ h => h) (fun i hi e => by omega)
  have HK := Lib.hid hk; clear hk hgrow hat
  go_wp2
  go_ret
  exact ⟨_, rfl, ⟨by simpa [bv] using HO1.out, fun k hk => (HO1.out.lt k hk).1⟩, HK.out⟩

set_option maxRecDepth 100000 in
set_option maxHeartbeats 400000 in
theorem few_empty (x : Addr) (n : Nat) (w : World) (hn : n ≤ 100000) :
    Calls Tryd.prog 33 #[.slice (some x) 0 0, .int .i64 n] w fun e w' => ∃ v', e = .returned v' ∧ Fresh w' w.heap.size v' [] ∧ Kept (fun _ => False) w w' := by
  have hle1 : min (0 : Int) n = 0 := by omega
  go_enter Tryd.func33, Tryd.ntmps33
  go_wp2_with fail
  refine (bclone_empty x w).mono ?_
  rintro e w' ⟨v', rfl, hf, hk⟩
  have HF := Lib.hid hf; clear hf
  go_wp2_with fail
  go_ret
  exact ⟨_, rfl, HF.out, hk⟩

theorem few_loose (v : Value) (xs : List Nat) (n B : Nat) (w : World) (h : Loose w v xs B) (hn : n ≤ 100000) :
    Calls Tryd.prog 33 #[v, .int .i64 n] w fun e w' => ∃ v', e = .returned v' ∧ Fresh w' w.heap.size v' (xs.take n) ∧ Kept (fun _ => False) w w' := by
  rcases h with ⟨h, _⟩ | ⟨x, rfl, rfl⟩
  · exact few_any v xs n w h hn
  · rw [List.take_nil]; exact few_empty x n w hn
end Go.Proofs.YtaoidabelclipaaDoor
