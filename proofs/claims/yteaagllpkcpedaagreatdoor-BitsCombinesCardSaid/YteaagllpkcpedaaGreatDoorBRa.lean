/-
  arbacref01: And.
-/
import Derived.Test.YteaagllpkcpedaaGreatDoorBRx
namespace Go.Proofs.YteaagllpkcpedaaGreatDoor
open Go.RowKit

set_option maxRecDepth 100000 in
set_option maxHeartbeats 1600000 in
theorem rand_any (w : World) (v u : Value) (xs ys : List Int) (h : Ints w v xs) (hu : Ints w u ys) (hl : xs.length ≤ 5000) :
    Calls Tryz.prog 12 #[v, u] w fun e w' => ∃ r, e = .returned r ∧ OwnI w' w.heap.size r (xs.filter fun x => decide (x ∈ ys)) ∧ Kept (fun _ => False) w w' := by
  obtain ⟨a, c, rfl⟩ := h.form
  obtain ⟨a2, c2, rfl⟩ := hu.form
  have HC := Lib.hid h.at
  have HU := Lib.hid hu
  have HL := Lib.hid hl
  have hlb := h.len
  clear h hl hu
  go_enter Tryz.func12, Tryz.ntmps12
  go_wp2_with fail
  go_loopw [5, 10] (fun ov iv wr => ∃ (k : Nat), k ≤ xs.length ∧ iv = .int .i64 k ∧ Hid (OwnI wr w.heap.size ov ((xs.take k).filter fun x => decide (x ∈ ys))) ∧ Hid (Kept (fun _ => False) w wr)) (fun _ iv _ => xs.length - (intOf iv).toNat)
  case atStart => exact ⟨0, Nat.zero_le _, rfl, OwnI.nil _ _, Kept.refl _ _⟩
  case round =>
    obtain ⟨k, hk, rfl, ho, hkw⟩ := hrel
    by_cases hlt : k < xs.length
    · have hlt' : (k : Int) < (xs.length : Int) := by omega
      obtain ⟨g, off, rfl, hck⟩ := HC.out k hlt
      have hstep := filter_take (fun x => decide (x ∈ ys)) xs k hlt
      obtain ⟨x, hx⟩ : ∃ x, x = xs.getD k 0 := ⟨_, rfl⟩
      rw [← hx] at hck hstep
      have ck := hck wr hkw.out
      have hfl : ((xs.take k).filter fun x => decide (x ∈ ys)).length ≤ 5000 := by
        have h1 := List.length_filter_le (fun x => decide (x ∈ ys)) (xs.take k)
        have h2 := HL.out
        rw [List.length_take] at h1; omega
      have HB : Hid (_ ≤ 900000) := Lib.hid (Nat.le_trans hfl (by omega)); have HS := Lib.hid hstep
      clear hx hstep hck hfl
      generalize ((xs.take k).filter fun x => decide (x ∈ ys)) = acc at ho HS HB
      go_wp2_with fail
      refine (rhas_any _ _ ys x (HU.out.kept hkw.out (fun _ _ h => h))).mono ?_
      rintro e w2 ⟨rfl, rfl⟩
      cases hm : decide (x ∈ ys) with
      | false =>
        have HS2 : Hid (((xs.take (k + 1)).filter fun x => decide (x ∈ ys)) = acc) := by show _ = _; rw [HS.out, hm]; rfl
        clear HS hm ck
        go_wp2_with fail
        go_roundw
        case rel => exact ⟨k + 1, by omega, by go_num, by rw [HS2.out]; exact ho, hkw⟩
        case measure => simp [intOf]; omega
      | true =>
        have HS2 : Hid (((xs.take (k + 1)).filter fun x => decide (x ∈ ys)) = acc ++ [x]) := by show _ = _; rw [HS.out, hm]; rfl
        clear HS hm ck
        go_wp2_with (at_builtin; refine wpList_push (by rfl) _ _ rfl rfl w.heap.size _ _ wr.heap.size x rfl rfl (ho.out.alloc _) (by go_simp) (HB.out) (by have := hkw.out.size; simp; omega) ?_)
        intro v' w3 hown' hgrow3
        have HO : Hid (OwnI w3 w.heap.size v' ((xs.take (k + 1)).filter fun x => decide (x ∈ ys))) := by
          show OwnI _ _ _ _
          rw [HS2.out]
          exact hown'
        have HK3 : Hid (Kept (fun _ => False) w w3) := (hkw.out.then (Kept.alloc _ _ _)).trans hgrow3 (fun _ _ h => h) (fun i hi e => by have := ho.out.lt i e; omega)
        clear hgrow3 hown'
        go_wp2
        go_roundw
        case rel => exact ⟨k + 1, by omega, by go_num, HO, HK3⟩
        case measure => simp [intOf]; omega
    · have hkx : k = xs.length := by omega
      have ho2 := ho.out
      rw [hkx, List.take_length] at ho2
      have HO := Lib.hid ho2
      have hnl : ¬ (k : Int) < (xs.length : Int) := by omega
      clear hkx ho ho2
      go_wp2_with fail
      go_ret
      exact ⟨_, rfl, HO.out, hkw.out⟩

end Go.Proofs.YteaagllpkcpedaaGreatDoor
