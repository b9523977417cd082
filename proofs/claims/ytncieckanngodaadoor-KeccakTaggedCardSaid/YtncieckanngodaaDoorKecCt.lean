/-
  arbaclaw03.short of a slice that lies loose in memory; an append of such a slice.
-/
import Derived.Test.YtncieckanngodaaDoorKecSh
import Derived.Test.YtncieckanngodaaDoorLB
import Derived.Test.YtncieckanngodaaDoorAppR
namespace Go.Proofs.YtncieckanngodaaDoor
open Go.RowKit

/-- The first 600 bytes of a slice. -/
def cutV : Value → Value
  | .slice a n c => .slice a (Nat.min 600 n) c
  | v => v

theorem Loose.cut {w : World} {v : Value} {xs : List Nat} {B : Nat} (h : Loose w v xs B) : Loose w (cutV v) (xs.take 600) B := by
  rcases h with ⟨h, hb⟩ | ⟨x, rfl, rfl⟩
  · obtain ⟨a, c, rfl⟩ := h.form
    refine Or.inl ⟨?_, fun j hj => hb j (by cases a <;> exact hj)⟩
    have := h.takeV (Nat.min 600 xs.length) (Nat.min_le_right _ _)
    rwa [show xs.take (Nat.min 600 xs.length) = xs.take 600 by
      rcases Nat.lt_or_ge 600 xs.length with h | h
      · rw [show Nat.min 600 xs.length = 600 from Nat.min_eq_left (by omega)]
      · rw [show Nat.min 600 xs.length = xs.length from Nat.min_eq_right h, List.take_length, List.take_of_length_le h]] at this
  · exact Or.inr ⟨x, rfl, by simp⟩

set_option maxRecDepth 100000 in
set_option maxHeartbeats 800000 in
theorem short_empty (w : World) (x : Addr) :
    Calls Tryd.prog 9 #[.slice (some x) 0 0] w fun e w' => e = .returned (.slice (some x) 0 0) ∧ w = w' := by
  have e : min (0 : Int) 600 = 0 := by omega
  go_enter Tryd.func9, Tryd.ntmps9
  go_wp2_with fail
  go_ret
  exact ⟨rfl, rfl⟩

theorem short_loose (w : World) (v : Value) (xs : List Nat) (B : Nat) (h : Loose w v xs B) :
    Calls Tryd.prog 9 #[v] w fun e w' => e = .returned (cutV v) ∧ w = w' := by
  rcases h with ⟨h, _⟩ | ⟨x, rfl, rfl⟩
  · obtain ⟨a, c, rfl⟩ := h.form
    refine (short_any w a xs c h).mono ?_
    rintro e w' ⟨rfl, rfl⟩
    exact ⟨by rw [List.length_take]; rfl, rfl⟩
  · exact short_empty w x

/-- 'append(v, y...)' where v is a row of the call's own and y lies loose. -/
theorem append_loose_at {W : World} {B B' : Nat} {v y : Value} {xs ys : List Nat} (h : Fresh W B v xs) (hy : Loose W y ys B') (hl : xs.length + ys.length ≤ 1000000) (hB : B ≤ W.heap.size) :
    ∃ a c w', (Builtin.append_ #[26, 26] 26 #[v, y]).run Tryd.prog W = .ok (.slice a (xs ++ ys).length c) w' ∧ Fresh w' B (.slice a (xs ++ ys).length c) (xs ++ ys) ∧ Kept (blk v) W w' ∧
      ((Value.slice a (xs ++ ys).length c).ownBlock = v.ownBlock ∨ ∀ k, (Value.slice a (xs ++ ys).length c).ownBlock = some k → W.heap.size ≤ k) := by
  rcases hy with ⟨hy, _⟩ | ⟨x, rfl, rfl⟩
  · exact append_reads_at h hy hl hB
  · obtain ⟨i0, hi, hz0, hz1, hz2⟩ := info_parts info_u8c
    obtain ⟨v', w', hr, ho, hg, _, hat⟩ := run_append_own_at (P := Tryd.prog) W B 26 26 5 i0 _ 1 1 Tryd.underlying26 hi hz0 hz1 hz2 rfl (by omega) v xs.length (bv xs) h.own x 0 0 []
      rfl (by intro j u hu; simp at hu) (by simp) (by unfold maxLen; simp at hl; omega) (by simp at hl; omega) hB
    have hf : Fresh w' B v' (xs ++ []) := ⟨by simpa [bv] using ho, fun k hk => (ho.lt k hk).1⟩
    have hat' : v'.ownBlock = v.ownBlock ∨ ∀ k, v'.ownBlock = some k → W.heap.size ≤ k := hat.imp id fun e k hk => by rw [e] at hk; injection hk with hk; omega
    have hk : Kept (blk v) W w' := Kept.ofGrown (S := blk v) hg fun k e => e
    obtain ⟨a, c, rfl⟩ := hf.reads.form
    exact ⟨a, c, w', hr, hf, hk, hat'⟩
end Go.Proofs.YtncieckanngodaaDoor
