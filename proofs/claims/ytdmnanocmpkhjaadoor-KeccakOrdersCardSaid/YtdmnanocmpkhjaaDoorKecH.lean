/-
  arbac/keccak: a Hash in memory; pending, Write.
-/
import Derived.Test.YtdmnanocmpkhjaaDoorKecI
import Derived.Test.YtdmnanocmpkhjaaDoorCore
import Derived.Test.YtdmnanocmpkhjaaDoorCrcW
import Derived.Lib.SlBuf
namespace Go.Proofs.YtdmnanocmpkhjaaDoor
open Go.RowKit

/-- A hash takes one byte: the state, and the bytes that are not absorbed yet. -/
def feed (a : List Nat × List Nat) (x : Nat) : List Nat × List Nat := if a.2.length = 135 then (absS a.1 (a.2 ++ [x]), []) else (a.1, a.2 ++ [x])
def hsh (xs : List Nat) : List Nat × List Nat := xs.foldl feed (List.replicate 25 0, [])
/-- The last block. -/
def padB (b : List Nat) : List Nat := ((b ++ List.replicate (136 - b.length) 0).set b.length 6).set 135 (((b ++ List.replicate (136 - b.length) 0).set b.length 6).getD 135 0 ^^^ 128)
def digS (xs : List Nat) : List Nat := dig (absS (hsh xs).1 (padB (hsh xs).2))

theorem feed_few (c : List Nat) : ∀ (s b : List Nat), b.length + c.length < 136 → c.foldl feed (s, b) = (s, b ++ c) := by
  induction c with
  | nil => intro s b _; simp
  | cons x c ih =>
    intro s b h
    simp at h
    rw [List.foldl_cons, show feed (s, b) x = (s, b ++ [x]) by unfold feed; rw [if_neg (by show ¬ b.length = 135; omega)], ih _ _ (by simp; omega)]
    simp
theorem feed_full (c : List Nat) (s b : List Nat) (h : b.length + c.length = 136) (hb : b.length < 136) : c.foldl feed (s, b) = (absS s (b ++ c), []) := by
  have hc : c ≠ [] := by intro e; subst e; simp at h; omega
  obtain ⟨d, x, rfl⟩ : ∃ d x, c = d ++ [x] := ⟨c.dropLast, c.getLast hc, (List.dropLast_concat_getLast hc).symm⟩
  simp at h
  rw [List.foldl_append, feed_few d s b (by omega), List.foldl_cons, List.foldl_nil]
  unfold feed
  rw [if_pos (by show (b ++ d).length = 135; simp; omega)]
  simp
theorem hsh_append (a b : List Nat) : hsh (a ++ b) = b.foldl feed (hsh a) := by simp [hsh]
structure HOk (a : List Nat × List Nat) (n : Nat) : Prop where
  l1 : a.1.length = 25
  b1 : ∀ x ∈ a.1, x < 2 ^ 64
  l2 : a.2.length = n % 136
  b2 : ∀ x ∈ a.2, x < 256
theorem HOk.feed {a : List Nat × List Nat} {n x : Nat} (h : HOk a n) (hx : x < 256) : HOk (feed a x) (n + 1) := by
  have h2 := h.l2
  have hb : ∀ y ∈ a.2 ++ [x], y < 256 := by intro y hy; rcases List.mem_append.1 hy with h' | h'; exact h.b2 y h'; simp at h'; omega
  unfold Go.Proofs.YtdmnanocmpkhjaaDoor.feed
  by_cases e : a.2.length = 135
  · rw [if_pos e]
    have hs := absS_ok h.b1 h.l1 hb
    exact ⟨hs.1, hs.2, by simp; omega, by simp⟩
  · rw [if_neg e]
    exact ⟨h.l1, h.b1, by simp; omega, hb⟩
theorem foldl_ok : ∀ (c : List Nat) (a : List Nat × List Nat) (n : Nat), HOk a n → (∀ x ∈ c, x < 256) → HOk (c.foldl Go.Proofs.YtdmnanocmpkhjaaDoor.feed a) (n + c.length)
  | [], a, n, h, _ => h
  | x :: c, a, n, h, hc => by
    have := foldl_ok c _ (n + 1) (h.feed (hc x (by simp))) (fun y hy => hc y (by simp [hy]))
    rw [show n + (x :: c).length = n + 1 + c.length by simp; omega]
    exact this
theorem hsh_ok {xs : List Nat} (h : ∀ x ∈ xs, x < 256) : HOk (hsh xs) xs.length := by
  have := foldl_ok xs (List.replicate 25 0, []) 0 ⟨by simp, by intro x hx; have := List.eq_of_mem_replicate hx; omega, rfl, by simp⟩ h
  rwa [Nat.zero_add] at this

/-- A hash of these bytes lies there. -/
structure HashAt (w : World) (g off : Nat) (xs : List Nat) : Prop where
  st : Lanes w g off (hsh xs).1
  blk : ∃ blk, blk.length = 136 ∧ (∀ x ∈ blk, x < 256) ∧ Blk w g (off + 25) blk ∧ blk.take (hsh xs).2.length = (hsh xs).2
  len : w.cell? ⟨g, off + 161, none⟩ = some (.int .u64 (xs.length : Nat))
  free : w.frozen? ⟨g, off + 161, none⟩ = false
  byte : ∀ x ∈ xs, x < 256
theorem HashAt.kept {S : Nat → Prop} {w w' : World} {g off : Nat} {xs : List Nat} (h : HashAt w g off xs) (hk : Kept S w w') (hlt : g < w.heap.size) (hn : ¬ S g) : HashAt w' g off xs := by
  obtain ⟨blk, h1, h2, h3, h4⟩ := h.blk
  exact ⟨h.st.kept hk hlt hn, ⟨blk, h1, h2, h3.kept hk hlt hn, h4⟩, (hk.cell (p := ⟨g, off + 161, none⟩) hlt hn).trans h.len, (hk.frozen (p := ⟨g, off + 161, none⟩) hlt hn).trans h.free, h.byte⟩

set_option maxRecDepth 100000 in
set_option maxHeartbeats 400000 in
theorem pending_any (w : World) (g off n : Nat) (h : w.cell? ⟨g, off + 161, none⟩ = some (.int .u64 (n : Nat))) (hn : n < 2 ^ 62) :
    Calls Tryd.prog 13 #[.pointer (some ⟨g, off, none⟩)] w fun e w' => e = .returned (.int .i64 (n % 136 : Nat)) ∧ w = w' := by
  obtain ⟨m, hm⟩ : ∃ m, m = n % 136 := ⟨_, rfl⟩
  have m1 : (n : Int).tmod 136 = (m : Int) := by rw [Int.tmod_eq_emod_of_nonneg (by omega)]; omega
  have m2 : (n : Int) % 136 = (m : Int) := by omega
  have w1 : IntKind.i64.wrap (m : Int) = (m : Int) := IntWalk.i64_in _ (by omega)
  have w2 : IntKind.u64.wrap (m : Int) = (m : Int) := IntWalk.u64_in _ (by omega)
  rw [← hm]
  clear hm
  go_enter Tryd.func13, Tryd.ntmps13
  go_wp2_with fail
  go_ret
  exact ⟨rfl, rfl⟩

theorem Blk.splice {w : World} {g off a : Nat} {blk c : List Nat} (h : Blk w g off blk) (ha : a + c.length ≤ blk.length) : Blk (w.setCells g (off + a) (arr8 c)) g off (blk.take a ++ c ++ blk.drop (a + c.length)) := by
  have hl : (blk.take a ++ c ++ blk.drop (a + c.length)).length = blk.length := by simp; omega
  refine ⟨fun i hi => ?_, fun i hi => ?_⟩
  · rw [hl] at hi
    by_cases h1 : a ≤ i ∧ i < a + c.length
    · have := World.cell?_setCells_in g (arr8 c) (off + a) w (fun j hj => by rw [Nat.add_assoc, h.cell (a + j) (by rw [arr8_length] at hj; omega)]; rfl) (i - a) (by rw [arr8_length]; omega)
      rw [show off + a + (i - a) = off + i by omega] at this
      rw [this, List.getD_eq_getElem?_getD, List.append_assoc, List.getElem?_append_right (by simp; omega), List.getElem?_append_left (by simp; omega)]
      simp [arr8, show min a blk.length = a by omega, show i - a < c.length by omega]
    · have e : (blk.take a ++ c ++ blk.drop (a + c.length)).getD i 0 = blk.getD i 0 := ?_
      · rw [World.cell?_setCells_out g (arr8 c) (off + a) w _ (fun _ _ => by rw [arr8_length]; show off + i < off + a ∨ off + a + c.length ≤ off + i; omega), h.cell i hi, e]
      rw [List.getD_eq_getElem?_getD, List.getD_eq_getElem?_getD]
      by_cases h2 : i < a
      · rw [List.append_assoc, List.getElem?_append_left (by simp; omega), List.getElem?_take_of_lt h2]
      · rw [List.getElem?_append_right (by simp; omega), List.getElem?_drop]
        congr 2
        simp
        omega
  · rw [World.frozen?_setCells]; rw [hl] at hi; exact h.free i hi
theorem run_copy8 {P : Program} (w : World) (dT sT ty elem : TypeId) (g off dLen dCap sLen sCap gs os : Nat) (blk c ys : List Nat) (hu : P.underlying dT = some (.slice elem)) (hs : (P.info? elem).map (·.size) = some 1)
    (hn : c.length = Nat.min sLen dLen) (hc : ∀ j, j < c.length → j < ys.length ∧ c.getD j 0 = ys.getD j 0) (hsrc : ∀ j, j < ys.length → w.cell? ⟨gs, os + j, none⟩ = some (.int .u8 (ys.getD j 0 : Nat))) (o a : Nat) (ho : off = o + a) (hB : Blk w g o blk) (hfit : a + c.length ≤ blk.length) :
    (Builtin.copy_ #[dT, sT] ty #[.slice (some ⟨g, off, none⟩) dLen dCap, .slice (some ⟨gs, os, none⟩) sLen sCap]).run P w = .ok (.int .i64 (c.length : Nat)) (w.setCells g off (arr8 c)) := by
  subst ho
  have := run_copy_cells (P := P) w dT sT ty elem g (o + a) dLen dCap ⟨gs, os, none⟩ sLen sCap (arr8 c) hu hs (by rw [arr8_length]; exact hn)
    (fun j v hv => by
      have hj : j < c.length := by
        have := (List.getElem?_eq_some_iff.1 hv).1
        rwa [arr8_length] at this
      rw [arr8_get c j hj] at hv
      have hadd : (⟨gs, os, none⟩ : Addr).add j = ⟨gs, os + j, none⟩ := by unfold Addr.add; split <;> simp_all
      rw [hadd, hsrc j (hc j hj).1, ← (hc j hj).2, hv])
    (fun j hj => by rw [arr8_length] at hj; rw [Nat.add_assoc, hB.cell (a + j) (by omega)]; rfl)
    (fun j hj => by rw [arr8_length] at hj; rw [Nat.add_assoc]; exact hB.free (a + j) (by omega)) (arr8_one c)
  rw [arr8_length] at this
  exact this
end Go.Proofs.YtdmnanocmpkhjaaDoor
