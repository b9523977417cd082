/-
  Bytes of a value that lies in memory: as 'Reads', or an empty slice of capacity 0 at whatever address. short, string(..), Raw, Bytes, PutBytes, members of them.
-/
import Derived.Test.YtknphfednknajabArg
import Derived.Test.YtknphfednknajabMembers
import Derived.Test.YtknphfednknajabRefSet
import Derived.Laws.BytesArg
namespace Go.Proofs.Ytknphfednknajab
open Go.RowKit

/-- It reads as these bytes, below block B; or it is empty, at whatever address. -/
def Loose (w : World) (v : Value) (xs : List Nat) (B : Nat) : Prop :=
  (Reads w v xs ∧ ∀ j, v.ownBlock = some j → j < B) ∨ ∃ x, v = .slice (some x) 0 0 ∧ xs = []

theorem Loose.kept {S : Nat → Prop} {a b : World} {v : Value} {xs : List Nat} {B : Nat} (h : Loose a v xs B) (hk : Kept S a b) (hS : ∀ k, k < B → ¬ S k) : Loose b v xs B := by
  rcases h with ⟨h, hb⟩ | h
  · exact Or.inl ⟨h.kept hk fun k hk => hS k (hb k hk), hb⟩
  · exact Or.inr h

theorem Loose.form {w : World} {v : Value} {xs : List Nat} {B : Nat} (h : Loose w v xs B) : ∃ a c, v = .slice a xs.length c := by
  rcases h with ⟨h, _⟩ | ⟨x, rfl, rfl⟩
  · rcases h with ⟨h, h2⟩ | ⟨g, off, cap, h, _⟩
    · exact ⟨none, 0, by rw [h, h2]; rfl⟩
    · exact ⟨_, _, h⟩
  · exact ⟨_, _, rfl⟩

set_option maxRecDepth 100000 in
set_option maxHeartbeats 400000 in
theorem short_empty (w : World) (x : Addr) :
    Calls Try.prog 19 #[.slice (some x) 0 0] w fun e w' => e = .returned (.slice (some x) 0 0) ∧ w = w' := by
  go_enter Try.func19, Try.ntmps19
  go_wp2_with fail
  go_ret
  exact ⟨rfl, rfl⟩

theorem short_loose (w : World) (v : Value) (xs : List Nat) (B : Nat) (h : Loose w v xs B) :
    Calls Try.prog 19 #[v] w fun e w' => ∃ v', e = .returned v' ∧ Loose w v' (xs.take 300) B ∧ w = w' := by
  rcases h with ⟨h, hb⟩ | ⟨x, rfl, rfl⟩
  · refine (short_any w v xs h).mono ?_
    rintro e w' ⟨v', rfl, hr, ho, rfl⟩
    exact ⟨v', rfl, Or.inl ⟨hr, fun j hj => hb j (by rw [← ho]; exact hj)⟩, rfl⟩
  · refine (short_empty w x).mono ?_
    rintro e w' ⟨rfl, rfl⟩
    exact ⟨_, rfl, Or.inr ⟨x, rfl, rfl⟩, rfl⟩

theorem str_loose {w : World} {v : Value} {xs : List Nat} {B : Nat} (h : Loose w v xs B) : (convert 28 9 v).run Try.prog w = .ok (.string (strOf xs)) w := by
  rcases h with ⟨h, _⟩ | ⟨x, rfl, rfl⟩
  · exact reads_str h
  · rw [run_convert_bytes_string w 28 9 5 _ 0 0 Try.underlying28 Try.underlying5 Try.underlying9]
    have hl : (loadCells x 0).run Try.prog w = .ok (([] : List Int).map (Value.int .u8)).toArray w := by
      have := run_loadCells_list (P := Try.prog) w x [] (by simp)
      simpa using this
    rw [run_bytesToString w x 0 0 [] hl]
    rfl

set_option maxRecDepth 100000 in
set_option maxHeartbeats 400000 in
theorem raw_empty (x : Addr) (w : World) (wb : Nat) (v : Value) (B : Nat) (xs : List Nat) (h : Wr w wb v B xs) (hl : xs.length ≤ 140000000000000) (hB : B ≤ w.heap.size) :
    Calls Try.prog 47 #[.pointer (some ⟨wb, 0, none⟩), .slice (some x) 0 0] w fun e w' => e = .returned (.tuple #[]) ∧ ∃ v', Wr w' wb v' B (xs ++ []) ∧ WStep w w' wb v v' := by
  obtain ⟨i0, hi, hz0, hz1, hz2⟩ := info_parts info_u8
  have hc := h.cell
  have hf := h.free
  obtain ⟨va, vc, hvf⟩ := own_form h.own
  have HH := Lib.hid h; clear h
  have hap := HH.out.apart
  have hwlt := HH.out.lt
  have HC := Lib.hid hc; have HF := Lib.hid hf
  have HV := Lib.hid hvf
  subst hvf
  go_enter Try.func47, Try.ntmps47
  go_wp2_with (at_builtin; refine wpList_append_own_at _ rfl _ _ _ rfl B 5 i0 _ 1 1 Try.underlying28 hi hz0 hz1 hz2 rfl (by omega) _ _ _ rfl HH.out.own x 0 0 [] rfl rfl (by intro j u hu; simp at hu) (by simp) (by unfold maxLen; omega) (by omega) hB ?_)
  intro v' w1 hown1 hgrow _ hat
  have hcz : w1.cell? ⟨wb, 0, none⟩ = _ := (hgrow.cell_far ⟨wb, 0, none⟩ hwlt (Ne.symm hap)).trans HC.out
  have hfz : w1.frozen? ⟨wb, 0, none⟩ = false := (hgrow.frozen_far ⟨wb, 0, none⟩ hwlt (Ne.symm hap)).trans HF.out
  have hpush := wr_push2 (ys := []) HH.out rfl rfl (by simpa [bv] using hown1) hgrow hat
  obtain ⟨va', vc', hvf'⟩ := own_form hown1
  have HP := Lib.hid hpush; clear hpush hown1 hgrow hat
  subst hvf'
  go_wp2
  go_end0
  exact ⟨rfl, _, HP.out.1, HP.out.2⟩

theorem raw_loose (p : Value) (ys : List Nat) (w : World) (wb : Nat) (v : Value) (B : Nat) (xs : List Nat) (h : Wr w wb v B xs) (hp : Loose w p ys B) (hl : xs.length + ys.length ≤ 140000000000000) (hB : B ≤ w.heap.size) :
    Calls Try.prog 47 #[.pointer (some ⟨wb, 0, none⟩), p] w fun e w' => e = .returned (.tuple #[]) ∧ ∃ v', Wr w' wb v' B (xs ++ ys) ∧ WStep w w' wb v v' := by
  rcases hp with ⟨hp, _⟩ | ⟨x, rfl, rfl⟩
  · exact raw_any p ys w wb v B xs h hp hl hB
  · exact raw_empty x w wb v B xs h (by omega) hB

set_option maxRecDepth 100000 in
set_option maxHeartbeats 400000 in
theorem wbytes_empty (x : Addr) (w : World) (wb : Nat) (v : Value) (B : Nat) (xs : List Nat) (h : Wr w wb v B xs) (hl : xs.length ≤ 90000000000000) (hB : B ≤ w.heap.size) :
    Calls Try.prog 43 #[.pointer (some ⟨wb, 0, none⟩), .slice (some x) 0 0] w fun e w' => e = .returned (.tuple #[]) ∧ ∃ v', Wr w' wb v' B (xs ++ (enc 0 ++ [])) ∧ WStep w w' wb v v' := by
  have hlen := enc_len (v := 0) (by omega)
  have HH := Lib.hid h; clear h
  go_enter Try.func43, Try.ntmps43
  go_wp2_with fail
  refine (uint_any 0 w wb v B xs HH.out (by omega) (by show 0 < 18446744073709551616; omega)).mono ?_
  rintro e w1 ⟨rfl, v1, hw1, hs1⟩
  have hB1 : B ≤ w1.heap.size := Nat.le_trans hB hs1.kept.size
  go_wp2_with fail
  refine (raw_empty x w1 wb v1 B _ hw1 (by simp; omega) hB1).mono ?_
  rintro e w2 ⟨rfl, v2, hw2, hs2⟩
  rw [List.append_assoc] at hw2
  have HW2 := Lib.hid hw2; have HS2 := Lib.hid hs2; clear hw2 hs2
  go_wp2
  go_end0
  exact ⟨rfl, _, HW2.out, hs1.trans HS2.out⟩

theorem wbytes_loose (p : Value) (ys : List Nat) (w : World) (wb : Nat) (v : Value) (B : Nat) (xs : List Nat) (h : Wr w wb v B xs) (hp : Loose w p ys B) (hl : xs.length ≤ 90000000000000) (hy : ys.length ≤ 40000000000000) (hB : B ≤ w.heap.size) :
    Calls Try.prog 43 #[.pointer (some ⟨wb, 0, none⟩), p] w fun e w' => e = .returned (.tuple #[]) ∧ ∃ v', Wr w' wb v' B (xs ++ (enc ys.length ++ ys)) ∧ WStep w w' wb v v' := by
  rcases hp with ⟨hp, hb⟩ | ⟨x, rfl, rfl⟩
  · exact wbytes_any p ys w wb v B xs h hp (fun k hk => ⟨fun e => by have := hb k hk; have := h.base; omega, fun e => by have := hb k hk; have := (h.own.lt k e).1; omega⟩) hl hy hB
  · exact wbytes_empty x w wb v B xs h hl hB

set_option maxRecDepth 100000 in
set_option maxHeartbeats 800000 in
theorem putbytes_empty (x : Addr) (w : World) :
    Calls Try.prog 28 #[.slice (some x) 0 0] w fun e w' => ∃ v', e = .returned v' ∧ Fresh w' w.heap.size v' (enc 0 ++ []) ∧ Kept (fun _ => False) w w' := by
  obtain ⟨i0, hi, hz0, hz1, hz2⟩ := info_parts info_u8
  have hel := enc_len (v := 0) (by omega)
  have hep := enc_pos 0
  go_enter Try.func28, Try.ntmps28
  go_wp2_with fail
  refine (put_any 0 w (by show 0 < 18446744073709551616; omega)).mono ?_
  rintro e w1 ⟨v1, rfl, hf, hk⟩
  have HF := Lib.hid hf; clear hf
  have hsz := hk.size
  go_wp2_with (at_builtin; refine wpList_append_own_at _ rfl _ _ _ rfl w.heap.size 5 i0 _ 1 1 Try.underlying28 hi hz0 hz1 hz2 rfl (by omega) _ _ _ rfl HF.out.own x 0 0 [] rfl rfl (by intro j u hu; simp at hu) (by simp) (by unfold maxLen; omega) (by omega) (by omega) ?_)
  intro v' w2 hown hgrow _ hat
  have HO := Lib.hid hown; clear hown
  have hk2 : Kept (fun _ => False) w w2 := hk.trans (Kept.ofGrown (S := fun k => w.heap.size ≤ k) hgrow (fun k e => HF.out.block k e)) (fun _ _ h => h) (fun i hi e => by omega)
  clear hgrow hat
  go_wp2
  go_ret
  refine ⟨_, rfl, ⟨?_, fun k hk => (HO.out.lt k hk).1⟩, hk2⟩
  have := HO.out
  simpa [bv] using this

theorem putbytes_loose (p : Value) (ys : List Nat) (w : World) (B : Nat) (hp : Loose w p ys B) (hl : ys.length ≤ 100000000000000) :
    Calls Try.prog 28 #[p] w fun e w' => ∃ v', e = .returned v' ∧ Fresh w' w.heap.size v' (enc ys.length ++ ys) ∧ Kept (fun _ => False) w w' := by
  rcases hp with ⟨hp, _⟩ | ⟨x, rfl, rfl⟩
  · exact putbytes_any p ys w hp hl
  · exact putbytes_empty x w

set_option maxRecDepth 100000 in
set_option maxHeartbeats 400000 in
theorem members_empty (w : World) (x : Addr) :
    Calls Try.prog 23 #[.slice (some x) 0 0] w fun e w' => e = .returned (.slice none 0 0) ∧ w = w' := by
  go_enter Try.func23, Try.ntmps23
  go_wp2_with fail
  go_loop [3, 4] (fun vv iv => vv = .slice none 0 0 ∧ iv = .int .i64 0) (fun _ _ => 0)
  case atStart => exact ⟨rfl, rfl⟩
  case round =>
    obtain ⟨rfl, rfl⟩ := hrel
    go_wp2_with fail
    go_ret
    exact ⟨rfl, rfl⟩

theorem members_loose (w : World) (v : Value) (xs : List Nat) (B : Nat) (h : Loose w v xs B) (hby : ∀ b ∈ xs, b < 256) :
    Calls Try.prog 23 #[v] w fun e w' => ∃ v', e = .returned v' ∧ Ints w' v' (membersOf xs) ∧ (∀ k, v'.ownBlock = some k → w.heap.size ≤ k) ∧ Kept (fun _ => False) w w' := by
  rcases h with ⟨h, _⟩ | ⟨x, rfl, rfl⟩
  · exact members_any w v xs h hby
  · refine (members_empty w x).mono ?_
    rintro e w' ⟨rfl, rfl⟩
    exact ⟨_, rfl, Or.inl ⟨rfl, rfl⟩, by intro k hk; simp [Value.ownBlock] at hk, Kept.refl _ _⟩

end Go.Proofs.Ytknphfednknajab
