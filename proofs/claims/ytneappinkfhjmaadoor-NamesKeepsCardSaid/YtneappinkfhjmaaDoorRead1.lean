/-
  wire.Reader: ready, take, Err, Left.
-/
import Derived.Test.YtneappinkfhjmaaDoorCore
import Derived.Test.YtneappinkfhjmaaDoorRows
import Derived.Outline
import Derived.WalkLawsBesides
import Derived.WalkSpells
import Derived.BigQuiet
import Derived.IntWalk
namespace Go.Proofs.YtneappinkfhjmaaDoor
open Go.RowKit

set_option maxRecDepth 100000 in
theorem ready_yes (w : World) (rb : Nat) (hc : w.cell? ⟨rb, 1, none⟩ = some (.int .i64 0)) :
    Calls Tryd.prog 75 #[.pointer (some ⟨rb, 0, none⟩)] w fun e w' => e = .returned (.bool true) ∧ w = w' := by
  go_enter Tryd.func75, Tryd.ntmps75
  go_wp2_with fail
  go_ret
  exact ⟨rfl, rfl⟩

set_option maxRecDepth 100000 in
theorem ready_no (w : World) (rb : Nat) (err : Int) (he : err ≠ 0) (hc : w.cell? ⟨rb, 1, none⟩ = some (.int .i64 err)) :
    Calls Tryd.prog 75 #[.pointer (some ⟨rb, 0, none⟩)] w fun e w' => e = .returned (.bool false) ∧ w = w' := by
  have hb : (err == 0) = false := by simpa using he
  go_enter Tryd.func75, Tryd.ntmps75
  go_wp2_with fail
  go_ret
  exact ⟨rfl, rfl⟩

set_option maxRecDepth 100000 in
theorem err_any (w : World) (rb : Nat) (err : Int) (hc : w.cell? ⟨rb, 1, none⟩ = some (.int .i64 err)) :
    Calls Tryd.prog 76 #[.pointer (some ⟨rb, 0, none⟩)] w fun e w' => e = .returned (.int .i64 err) ∧ w = w' := by
  go_enter Tryd.func76, Tryd.ntmps76
  go_wp2_with fail
  go_ret
  exact ⟨rfl, rfl⟩

set_option maxRecDepth 100000 in
set_option maxHeartbeats 400000 in
theorem take_at (w : World) (rb g off len cap n : Nat) (hl : len ≤ cap) (hm : cap ≤ 9223372036854775807) (hn : n ≤ len) (hc : w.cell? ⟨rb, 0, none⟩ = some (.slice (some ⟨g, off, none⟩) len cap)) (hf : w.frozen? ⟨rb, 0, none⟩ = false) :
    Calls Tryd.prog 119 #[.pointer (some ⟨rb, 0, none⟩), .int .i64 n] w fun e w' => e = .returned (.slice (some ⟨g, off, none⟩) n cap) ∧
      w' = w.setCell ⟨rb, 0, none⟩ (.slice (some ⟨g, if n = cap then off else off + n, none⟩) (len - n) (cap - n)) := by
  have hn0 : (0 : Int) ≤ (n : Int) := by omega
  have hn1 : (n : Int) ≤ (len : Int) := by omega
  by_cases hnc : n = cap
  · have hnc1 : cap = n := hnc.symm
    have hln : len = n := by omega
    subst hnc1 hln
    rw [if_pos rfl, Nat.sub_self]
    go_enter Tryd.func119, Tryd.ntmps119
    go_wp2_with fail
    go_ret
    exact ⟨rfl, rfl⟩
  · rw [if_neg hnc]
    have hnc' : ¬ cap = n := by omega
    clear hnc
    go_enter Tryd.func119, Tryd.ntmps119
    go_wp2_with fail
    go_ret
    exact ⟨rfl, rfl⟩

set_option maxRecDepth 100000 in
set_option maxHeartbeats 400000 in
theorem take_nil (w : World) (rb : Nat) (hc : w.cell? ⟨rb, 0, none⟩ = some (.slice none 0 0)) (hf : w.frozen? ⟨rb, 0, none⟩ = false) :
    Calls Tryd.prog 119 #[.pointer (some ⟨rb, 0, none⟩), .int .i64 0] w fun e w' => e = .returned (.slice none 0 0) ∧ w' = w.setCell ⟨rb, 0, none⟩ (.slice none 0 0) := by
  go_enter Tryd.func119, Tryd.ntmps119
  go_wp2_with fail
  go_ret
  exact ⟨rfl, rfl⟩

/-- 'take' of n bytes that are there. -/
theorem take_any (w : World) (rb : Nat) (v : Value) (xs : List Nat) (err : Int) (n : Nat) (h : Rd w rb v xs err) (hn : n ≤ xs.length) :
    Calls Tryd.prog 119 #[.pointer (some ⟨rb, 0, none⟩), .int .i64 n] w fun e w' => ∃ p v', e = .returned p ∧ Rd w' rb v' (xs.drop n) err ∧ Reads w' p (xs.take n) ∧
      v'.ownBlock = v.ownBlock ∧ p.ownBlock = v.ownBlock ∧ Kept (fun k => k = rb) w w' := by
  rcases h.reads with ⟨rfl, rfl⟩ | ⟨g, off, cap, rfl, h1, h2, h3, h4⟩
  · have hn0 : n = 0 := by simpa using hn
    subst hn0
    refine (take_nil w rb h.cell0 h.free0).mono ?_
    rintro e w' ⟨rfl, rfl⟩
    exact ⟨_, _, rfl, h.setLeft (Or.inl ⟨rfl, rfl⟩) (by simp [Value.ownBlock]), Or.inl ⟨rfl, rfl⟩, rfl, rfl, Kept.setCell _ _ _ _ rfl⟩
  · refine (take_at w rb g off xs.length cap n h1 (by unfold maxLen at h2; omega) hn h.cell0 h.free0).mono ?_
    rintro e w' ⟨rfl, rfl⟩
    have hk := Kept.setCell (fun k => k = rb) w ⟨rb, 0, none⟩ (.slice (some ⟨g, if n = cap then off else off + n, none⟩) (xs.length - n) (cap - n)) rfl
    have hap : g ≠ rb := fun e => h.apart (by simp [Value.ownBlock, e])
    have hr : Reads w (.slice (some ⟨g, if n = cap then off else off + n, none⟩) (xs.length - n) (cap - n)) (xs.drop n) := by
      by_cases hnc : n = cap
      · rw [if_pos hnc]
        refine Or.inr ⟨g, off, cap - n, by simp, by simp; omega, by omega, h3, fun i hi => ?_⟩
        simp at hi; omega
      · rw [if_neg hnc]
        exact Reads.drop n h.reads hn
    exact ⟨_, _, rfl, h.setLeft hr (by simpa [Value.ownBlock] using hap), (Reads.take n h.reads hn).kept hk (by simpa [Value.ownBlock] using hap), rfl, rfl, hk⟩

end Go.Proofs.YtneappinkfhjmaaDoor
