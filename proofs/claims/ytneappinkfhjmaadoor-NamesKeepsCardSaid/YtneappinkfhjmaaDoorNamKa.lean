/-
  arbaclaw08.NamesKeeps: plain words (names are ASCII; what is read back of their bytes), and an addition whatever comes of it.
-/
import Derived.Test.YtneappinkfhjmaaDoorNamEm
import Derived.Test.YtneappinkfhjmaaDoorNamRd
import Derived.Test.YtneappinkfhjmaaDoorNamUp
namespace Go.Proofs.YtneappinkfhjmaaDoor
open Go.RowKit
set_option linter.unusedSimpArgs false
set_option linter.unusedVariables false

theorem valid_ascii {s : ByteArray} (h : validS s = true) : ∀ b ∈ s.data.toList, b.toNat < 128 := by
  intro b hb
  obtain ⟨j, hj, rfl⟩ := List.getElem_of_mem hb
  have hjs : j < s.size := by simpa using hj
  unfold validS at h
  simp only [Bool.and_eq_true, List.all_eq_true] at h
  have hc := h.1.2 j (List.mem_range.2 hjs)
  rw [← bat_at s j hjs] at hc
  have e : s.data.toList[j] = s[j]'hjs := by first | rfl | simp
  rw [e]
  unfold chrB letB digB at hc
  simp only [Bool.or_eq_true, Bool.and_eq_true, decide_eq_true_iff] at hc
  omega
theorem refS_valid {xs : List ByteArray} {s : ByteArray} {most : Int} (h : refS xs s most = 0) : validS s = true := by
  unfold refS at h
  cases hv : validS s with
  | true => rfl
  | false => rw [hv, if_pos rfl] at h; exact absurd h (by decide)

theorem read_back (ys : List ByteArray) (h : ∀ y ∈ ys, y.size ≤ 12) (k : Nat) (hk : k < ys.length) :
    strOf (pieceS (encL (ys.drop k)) 12 0).1 = ys.getD k ⟨#[]⟩ ∧ (pieceS (encL (ys.drop k)) 12 0).2.1 = encL (ys.drop (k + 1)) ∧ (pieceS (encL (ys.drop k)) 12 0).2.2 = 0 := by
  have h0 := strsK_back ys [] h k (by omega)
  have h1 := strsK_back ys [] h (k + 1) (by omega)
  rw [strsK, h0] at h1
  simp only [List.append_nil] at h1
  injection h1 with e1 e2
  injection e2 with e2 e3
  rw [List.take_succ_eq_append_getElem hk] at e1
  have e1 := List.append_cancel_left e1
  injection e1 with e1
  exact ⟨by rw [e1]; simp [List.getD, hk], e2, e3⟩

/-- An addition, whatever comes of it. -/
theorem add_some8 (s : ByteArray) (w : World) (g : Nat) (xs : List ByteArray) (v : Value) (m n : Nat) (D : DataW Unit) (h : TabAt w g xs v m n D) (hs : s.size ≤ maxLen) :
    Calls Tryd.prog 15 #[.pointer (some ⟨g, 0, none⟩), .string s, .int .i64 100] w fun e w' => ∃ x y z, e = .returned (.tuple #[x, y, z]) ∧ Kept (fun _ => False) w w' := by
  by_cases hr : refS xs s 100 = 0
  · refine (add_ok s 100 w g xs v m n D h hr).mono ?_
    rintro e w' ⟨g4, rfl, _, _, hk⟩
    exact ⟨_, _, _, rfl, hk⟩
  · refine (add_no s 100 w g xs v m n D h hs hr).mono ?_
    rintro e w' ⟨rfl, hk⟩
    exact ⟨_, _, _, rfl, hk⟩
end Go.Proofs.YtneappinkfhjmaaDoor
