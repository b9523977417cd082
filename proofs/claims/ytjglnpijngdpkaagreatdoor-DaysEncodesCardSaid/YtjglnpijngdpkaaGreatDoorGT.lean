import Derived.Test.YtjglnpijngdpkaaGreatDoorGK
import Derived.Test.YtjglnpijngdpkaaGreatDoorArgIn
import Derived.Test.YtjglnpijngdpkaaGreatDoorGW
import Derived.Laws.BytesArg
/-
  Slices of bytes that lie loose in memory, and lists of them.
-/
namespace Go.Proofs.YtjglnpijngdpkaaGreatDoor
open Go.RowKit

/-- It reads as these bytes, below block B; or it is empty, at whatever address. -/
def Loose (w : World) (v : Value) (xs : List Nat) (B : Nat) : Prop :=
  (Reads w v xs ∧ ∀ j, v.ownBlock = some j → j < B) ∨ ∃ x, v = .slice (some x) 0 0 ∧ xs = []

theorem Loose.kept {S : Nat → Prop} {a b : World} {v : Value} {xs : List Nat} {B : Nat} (h : Loose a v xs B) (hk : Kept S a b) (hS : ∀ k, k < B → ¬ S k) : Loose b v xs B := by
  rcases h with ⟨h, hb⟩ | h
  · exact Or.inl ⟨h.kept hk fun k hk => hS k (hb k hk), hb⟩
  · exact Or.inr h

theorem Loose.form {w : World} {v : Value} {xs : List Nat} {B : Nat} (h : Loose w v xs B) : ∃ a c, v = .slice a xs.length c := by
  rcases h with ⟨h, _⟩ | ⟨x, rfl, rfl⟩
  · exact h.form
  · exact ⟨_, _, rfl⟩

/-- A list of slices of bytes in memory: it is empty, or its elements lie there. -/
def LB (w : World) (v : Value) (f : Nat → Value) (F : Nat → List Nat) (N B : Nat) : Prop :=
  ((∃ a c, v = .slice a 0 c ∧ (a = none → c = 0)) ∧ N = 0) ∨
  ∃ g off cap, v = .slice (some ⟨g, off, none⟩) N cap ∧ N ≤ cap ∧ ∀ i, i < N → w.cell? ⟨g, off + i, none⟩ = some (f i) ∧ g < B ∧ Loose w (f i) (F i) B ∧ ∀ x ∈ F i, x < 256

theorem LB.kept {a b : World} {v : Value} {f : Nat → Value} {F : Nat → List Nat} {N B : Nat} (h : LB a v f F N B) (hk : Kept (fun _ => False) a b) (hB : B ≤ a.heap.size) : LB b v f F N B := by
  rcases h with h | ⟨g, off, cap, rfl, hc, h⟩
  · exact Or.inl h
  · exact Or.inr ⟨g, off, cap, rfl, hc, fun i hi => by
      obtain ⟨h1, h2, h3, h4⟩ := h i hi
      exact ⟨(hk.cell (p := ⟨g, off + i, none⟩) (by simp; omega) (fun h => h)).trans h1, h2, h3.kept hk (fun _ _ h => h), h4⟩⟩

theorem LB.form {w : World} {v : Value} {f : Nat → Value} {F : Nat → List Nat} {N B : Nat} (h : LB w v f F N B) : ∃ a c, v = .slice a N c ∧ N ≤ c := by
  rcases h with ⟨⟨a, c, rfl, _⟩, rfl⟩ | ⟨g, off, cap, rfl, hc, h⟩
  · exact ⟨a, c, rfl, Nat.zero_le _⟩
  · exact ⟨_, _, rfl, hc⟩

theorem LB.at {w : World} {a : Option Addr} {n c : Nat} {f : Nat → Value} {F : Nat → List Nat} {N B k : Nat} (h : LB w (.slice a n c) f F N B) (hk : k < N) :
    ∃ g off, a = some ⟨g, off, none⟩ ∧ g < B ∧ w.cell? ⟨g, off + k, none⟩ = some (f k) ∧ Loose w (f k) (F k) B ∧ ∀ x ∈ F k, x < 256 := by
  rcases h with ⟨_, rfl⟩ | ⟨g, off, cap, h, _, h3⟩
  · omega
  · cases h
    obtain ⟨h1, h2, h4, h5⟩ := h3 k hk
    exact ⟨g, off, rfl, h2, h1, h4, h5⟩

end Go.Proofs.YtjglnpijngdpkaaGreatDoor
/-
  wire.Writer's Raw and Bytes of a slice that lies loose in memory. (As in Loose.)
-/
namespace Go.Proofs.YtjglnpijngdpkaaGreatDoor
open Go.RowKit

set_option maxRecDepth 100000 in
set_option maxHeartbeats 400000 in
theorem raw_empty (x : Addr) (w : World) (wb : Nat) (v : Value) (B : Nat) (xs : List Nat) (h : Wr w wb v B xs) (hl : xs.length ≤ 140000000000000) (hB : B ≤ w.heap.size) :
    Calls Tryz.prog 73 #[.pointer (some ⟨wb, 0, none⟩), .slice (some x) 0 0] w fun e w' => e = .returned (.tuple #[]) ∧ ∃ v', Wr w' wb v' B (xs ++ []) ∧ WStep w w' wb v v' := by
  obtain ⟨i0, hi, hz0, hz1, hz2⟩ := info_parts info_u8
  have hc := h.cell
  have hf := h.free
  obtain ⟨va, vc, hvf⟩ := own_form h.own
  have HH := Lib.hid h; clear h
  have hap := HH.out.apart
  have hwlt := HH.out.lt
  have HC := Lib.hid hc; have HF := Lib.hid hf
  have HV := Lib.hid hvf
  subst hvf
  go_enter Tryz.func73, Tryz.ntmps73
  go_wp2_with (at_builtin; refine wpList_append_own_at _ rfl _ _ _ rfl B 5 i0 _ 1 1 Tryz.underlying52 hi hz0 hz1 hz2 rfl (by omega) _ _ _ rfl HH.out.own x 0 0 [] rfl rfl (by intro j u hu; simp at hu) (by simp) (by unfold maxLen; omega) (by omega) hB ?_)
  intro v' w1 hown1 hgrow _ hat
  have hcz : w1.cell? ⟨wb, 0, none⟩ = _ := (hgrow.cell_far ⟨wb, 0, none⟩ hwlt (Ne.symm hap)).trans HC.out
  have hfz : w1.frozen? ⟨wb, 0, none⟩ = false := (hgrow.frozen_far ⟨wb, 0, none⟩ hwlt (Ne.symm hap)).trans HF.out
  have hpush := wr_push2 (ys := []) HH.out rfl rfl (by simpa [bv] using hown1) hgrow hat
  obtain ⟨va', vc', hvf'⟩ := own_form hown1
  have HP := Lib.hid hpush; clear hpush hown1 hgrow hat
  subst hvf'
  go_wp2
  go_end0
  exact ⟨rfl, _, HP.out.1, HP.out.2⟩

theorem raw_loose (p : Value) (ys : List Nat) (w : World) (wb : Nat) (v : Value) (B : Nat) (xs : List Nat) (h : Wr w wb v B xs) (hp : Loose w p ys B) (hl : xs.length + ys.length ≤ 140000000000000) (hB : B ≤ w.heap.size) :
    Calls Tryz.prog 73 #[.pointer (some ⟨wb, 0, none⟩), p] w fun e w' => e = .returned (.tuple #[]) ∧ ∃ v', Wr w' wb v' B (xs ++ ys) ∧ WStep w w' wb v v' := by
  rcases hp with ⟨hp, _⟩ | ⟨x, rfl, rfl⟩
  · exact raw_any p ys w wb v B xs h hp hl hB
  · exact raw_empty x w wb v B xs h (by omega) hB

set_option maxRecDepth 100000 in
set_option maxHeartbeats 400000 in
theorem wbytes_empty (x : Addr) (w : World) (wb : Nat) (v : Value) (B : Nat) (xs : List Nat) (h : Wr w wb v B xs) (hl : xs.length ≤ 90000000000000) (hB : B ≤ w.heap.size) :
    Calls Tryz.prog 56 #[.pointer (some ⟨wb, 0, none⟩), .slice (some x) 0 0] w fun e w' => e = .returned (.tuple #[]) ∧ ∃ v', Wr w' wb v' B (xs ++ (enc 0 ++ [])) ∧ WStep w w' wb v v' := by
  have hlen := enc_len (v := 0) (by omega)
  have HH := Lib.hid h; clear h
  go_enter Tryz.func56, Tryz.ntmps56
  go_wp2_with fail
  refine (uint_any 0 w wb v B xs HH.out (by omega) (by show 0 < 18446744073709551616; omega)).mono ?_
  rintro e w1 ⟨rfl, v1, hw1, hs1⟩
  have hB1 : B ≤ w1.heap.size := Nat.le_trans hB hs1.kept.size
  go_wp2_with fail
  refine (raw_empty x w1 wb v1 B _ hw1 (by simp; omega) hB1).mono ?_
  rintro e w2 ⟨rfl, v2, hw2, hs2⟩
  rw [List.append_assoc] at hw2
  have HW2 := Lib.hid hw2; have HS2 := Lib.hid hs2; clear hw2 hs2
  go_wp2
  go_end0
  exact ⟨rfl, _, HW2.out, hs1.trans HS2.out⟩

theorem wbytes_loose (p : Value) (ys : List Nat) (w : World) (wb : Nat) (v : Value) (B : Nat) (xs : List Nat) (h : Wr w wb v B xs) (hp : Loose w p ys B) (hl : xs.length ≤ 90000000000000) (hy : ys.length ≤ 40000000000000) (hB : B ≤ w.heap.size) :
    Calls Tryz.prog 56 #[.pointer (some ⟨wb, 0, none⟩), p] w fun e w' => e = .returned (.tuple #[]) ∧ ∃ v', Wr w' wb v' B (xs ++ (enc ys.length ++ ys)) ∧ WStep w w' wb v v' := by
  rcases hp with ⟨hp, hb⟩ | ⟨x, rfl, rfl⟩
  · exact wbytes_any p ys w wb v B xs h hp (fun k hk => ⟨fun e => by have := hb k hk; have := h.base; omega, fun e => by have := hb k hk; have := (h.own.lt k e).1; omega⟩) hl hy hB
  · exact wbytes_empty x w wb v B xs h hl hB

end Go.Proofs.YtjglnpijngdpkaaGreatDoor
