/-
  bytes.Clone over what is read; NewWriter, Out, NewReader; bytes as strings.
-/
import Derived.Test.YtccanbjnbmihgaaDoorCore
import Derived.Test.YtccanbjnbmihgaaDoorShelf
import Derived.Test.YtccanbjnbmihgaaDoorRows
import Derived.Laws.BytesArg
import Derived.Lib.BufferRead
import Derived.Outline
import Derived.WalkLawsBesides
import Derived.WalkSpells
import Derived.IntWalk
namespace Go.Proofs.YtccanbjnbmihgaaDoor
open Go.RowKit

/-- A value that reads as xs, in a row of its own from block B on. -/
structure Fresh (w : World) (B : Nat) (v : Value) (xs : List Nat) : Prop where
  own : w.ownsRow B 5 1 v xs.length (bv xs)
  block : ∀ k, v.ownBlock = some k → B ≤ k

theorem Fresh.reads {w : World} {B : Nat} {v : Value} {xs : List Nat} (h : Fresh w B v xs) : Reads w v xs := Reads.ofOwns h.own

theorem clone_any (v : Value) (xs : List Nat) (w : World) (h : Reads w v xs) (hl : xs.length ≤ 140737488355328) :
    Calls Tryd.prog 90 #[v] w fun e w' => ∃ v', e = .returned v' ∧ Fresh w' w.heap.size v' xs ∧ Kept (fun _ => False) w w' := by
  rcases h with ⟨rfl, rfl⟩ | ⟨g, off, cap, rfl, h1, h2, h3, h4⟩
  · refine (sh_Clone_nil 0 0 w).mono ?_
    rintro e w' ⟨rfl, rfl⟩
    exact ⟨_, rfl, ⟨World.ownsRow_nil _ _ _ _, by intro k hk; simp [Value.ownBlock] at hk⟩, Kept.refl _ _⟩
  · refine (sh_Clone_at ⟨g, off, none⟩ xs.length cap (xs.map fun n : Nat => (n : Int)) w (by simp) hl (fun i hi => ?_)).mono ?_
    · have hadd : (⟨g, off, none⟩ : Addr).add i = ⟨g, off + i, none⟩ := by unfold Addr.add; split <;> simp_all
      rw [hadd, h4 i hi]
      simp [List.getD, hi]
    · rintro e w' ⟨v', rfl, ho, _, hb⟩
      rw [bv_ints] at ho
      exact ⟨v', rfl, ⟨ho, fun k hk => (ho.lt k hk).1⟩, Kept.ofBelow _ hb⟩

set_option maxRecDepth 100000 in
theorem newWriter_any (w : World) :
    Calls Tryd.prog 69 #[] w fun e w' => e = .returned (.pointer (some ⟨w.heap.size, 0, none⟩)) ∧ w' = w.alloc (.cells #[.slice none 0 0] 133) := by
  go_enter Tryd.func69, Tryd.ntmps69
  go_wp2_with fail
  go_ret
  exact ⟨rfl, rfl⟩

/-- What a new writer holds: nothing. -/
theorem wr_new (w : World) (B : Nat) (hB : B ≤ w.heap.size) : Wr (w.alloc (.cells #[.slice none 0 0] 133)) w.heap.size (.slice none 0 0) B [] :=
  ⟨by go_simp, by go_simp, World.ownsRow_nil _ _ _ _, by simp [Value.ownBlock], hB⟩

set_option maxRecDepth 100000 in
theorem out_any (w : World) (wb : Nat) (v : Value) (xs : List Nat) (hr : Reads w v xs) (hl : xs.length ≤ 140737488355328) (hc : w.cell? ⟨wb, 0, none⟩ = some v) :
    Calls Tryd.prog 71 #[.pointer (some ⟨wb, 0, none⟩)] w fun e w' => ∃ v', e = .returned v' ∧ Fresh w' w.heap.size v' xs ∧ Kept (fun _ => False) w w' := by
  go_enter Tryd.func71, Tryd.ntmps71
  go_wp2_with fail
  refine (clone_any v xs w hr hl).mono ?_
  rintro e w' ⟨v', rfl, hf, hk⟩
  go_wp2_with fail
  go_ret
  exact ⟨v', rfl, hf, hk⟩

theorem Wr.reads {w : World} {wb : Nat} {v : Value} {B : Nat} {xs : List Nat} (h : Wr w wb v B xs) : Reads w v xs := Reads.ofOwns h.own

set_option maxRecDepth 100000 in
set_option maxHeartbeats 400000 in
theorem newReader_any (w : World) (v : Value) (xs : List Nat) (hr : Reads w v xs) (hl : xs.length ≤ 140737488355328) :
    Calls Tryd.prog 73 #[v] w fun e w' => ∃ rb v', e = .returned (.pointer (some ⟨rb, 0, none⟩)) ∧ Rd w' rb v' xs 0 ∧ w.heap.size ≤ rb ∧ (∀ k, v'.ownBlock = some k → w.heap.size ≤ k) ∧ Kept (fun _ => False) w w' := by
  go_enter Tryd.func73, Tryd.ntmps73
  go_wp2_with fail
  refine (clone_any v xs w hr hl).mono ?_
  rintro e w1 ⟨v', rfl, hf, hk⟩
  obtain ⟨a, n, c, hv⟩ : ∃ a n c, v' = .slice a n c := by
    rcases hf.reads with ⟨h, _⟩ | ⟨g, off, cap, h, _⟩
    · exact ⟨_, _, _, h⟩
    · exact ⟨_, _, _, h⟩
  subst hv
  have HF := Lib.hid hf; clear hf
  go_wp2_with fail
  go_ret
  refine ⟨w1.heap.size, _, rfl, ?_, hk.size, HF.out.block, hk.trans (Kept.alloc (fun _ => False) _ _) (fun _ _ h => h) (fun _ _ h => h)⟩
  have hlt := HF.out.reads.lt
  exact ⟨by go_simp, by go_simp, by go_simp, by go_simp, HF.out.reads.kept (Kept.alloc (fun _ => False) _ _) (fun _ _ h => h), fun e => by have := hlt _ e; omega⟩

theorem reads_str {w : World} {v : Value} {xs : List Nat} (h : Reads w v xs) : (convert 76 9 v).run Tryd.prog w = .ok (.string (strOfNums (xs.map fun n : Nat => (n : Int)))) w := by
  rcases h with ⟨rfl, rfl⟩ | ⟨g, off, cap, rfl, h1, h2, h3, h4⟩
  · exact run_convert_bytes_nil w 76 5 Tryd.underlying76 Tryd.underlying5 0 0 9 Tryd.underlying9
  · refine run_convert_bytes_arg w 76 5 Tryd.underlying76 Tryd.underlying5 g off xs.length cap (xs.map fun n : Nat => (n : Int)) (by simp) (fun i hi => ?_) 9 Tryd.underlying9
    rw [h4 i hi]
    simp [List.getD, hi]

theorem str_inj {xs ys : List Nat} (hx : ∀ b ∈ xs, b < 256) (hy : ∀ b ∈ ys, b < 256) : strOfNums (xs.map fun n : Nat => (n : Int)) = strOfNums (ys.map fun n : Nat => (n : Int)) ↔ xs = ys := by
  refine ⟨fun h => ?_, fun h => by rw [h]⟩
  have h1 := congrArg (fun s : ByteArray => s.data.toList.map UInt8.toNat) h
  simp only [strOfNums_data, List.map_map] at h1
  have key : ∀ zs : List Nat, (∀ b ∈ zs, b < 256) → zs.map (UInt8.toNat ∘ (fun n : Int => UInt8.ofNat n.toNat) ∘ fun n : Nat => (n : Int)) = zs := by
    intro zs hz
    conv => rhs; rw [← List.map_id zs]
    refine List.map_congr_left fun b hb => ?_
    simp [Nat.mod_eq_of_lt (hz b hb)]
  rw [key xs hx, key ys hy] at h1
  exact h1

end Go.Proofs.YtccanbjnbmihgaaDoor
