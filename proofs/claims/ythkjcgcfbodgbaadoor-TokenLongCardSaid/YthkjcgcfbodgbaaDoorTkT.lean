/-
  Tokens: arbaclaw15's told, cut, same.
-/
import Derived.Test.YthkjcgcfbodgbaaDoorTkS
import Derived.Deep.RegionHeld3
namespace Go.Proofs.YthkjcgcfbodgbaaDoor
open Go.RowKit Go.Shelf
set_option linter.unusedSimpArgs false
set_option linter.unusedVariables false

/-- At most 400 bytes of a text. -/
def cutK (s : ByteArray) : ByteArray := s.extract 0 (min s.size 400)
theorem cutK_size (s : ByteArray) : (cutK s).size ≤ 400 := by unfold cutK; rw [ByteArray.size_extract]; omega

set_option maxRecDepth 100000 in
theorem cutk_any (s : ByteArray) (w : World) (hs : s.size ≤ maxLen) : Calls Tryd.prog 12 #[.string s] w fun e w' => e = .returned (.string (cutK s)) ∧ w = w' := by
  unfold maxLen at hs
  unfold cutK
  by_cases h : s.size ≤ 400
  · have e1 : min (s.size : Int) 400 = (s.size : Int) := by omega
    have e2 : min s.size 400 = s.size := by omega
    rw [e2]
    clear e2
    go_enter Tryd.func12, Tryd.ntmps12
    go_wp2_with fail
    go_ret
    exact ⟨by simp, rfl⟩
  · have e1 : min (s.size : Int) 400 = 400 := by omega
    have e2 : min s.size 400 = 400 := by omega
    rw [e2]
    have l1 : (400 : Int) ≤ (s.size : Int) := by omega
    clear e2
    go_enter Tryd.func12, Tryd.ntmps12
    go_wp2_with fail
    go_ret
    exact ⟨rfl, rfl⟩

set_option maxRecDepth 100000 in
theorem told_any (x : Tok) (hk : x.k < 256) (w : World) : Calls Tryd.prog 20 #[tkV .u8 x] w fun e w' => e = .returned (tkV .i64 x) ∧ Kept (fun _ => False) w w' := by
  obtain ⟨k, t, n, i⟩ := x
  simp only at hk
  unfold tkV
  simp only
  have HK := Lib.hid (fun (c d : Array Value) => (Kept.alloc (fun _ => False) w (.cells c 31)).then (Kept.alloc (fun _ => False) (w.alloc (.cells c 31)) (.cells d 44)))
  have e1 : IntKind.i64.wrap (k : Int) = (k : Int) := IntWalk.i64_in _ (by omega)
  clear hk
  go_enter Tryd.func20, Tryd.ntmps20
  go_wp2_with fail
  exact bodyPost_ret (v := .agg #[.int .i64 (k : Int), .string t, .int .i64 n, .int .i64 i]) (by simp [results, Tryd.results20, go_sem]) rfl ⟨rfl, HK.out _ _⟩

set_option maxRecDepth 100000 in
set_option maxHeartbeats 3200000 in
theorem same_any (a b : Value) (l : List Tok) (w : World) (ha : Toks .u8 w a l) (hb : Toks .i64 w b l) (hk : ∀ i, i < l.length → (l.getD i tok0).k < 256) :
    Calls Tryd.prog 40 #[a, b] w fun e w' => e = .returned (.bool true) ∧ Kept (fun _ => False) w w' := by
  obtain ⟨aa, ac, rfl, z1, z2⟩ := ha.form
  obtain ⟨ba, bc, rfl, _, _⟩ := hb.form
  unfold maxLen at z2
  have HA := Lib.hid ha; have HB := Lib.hid hb; have HKK := Lib.hid hk
  obtain ⟨N, hN⟩ : ∃ N, N = l.length := ⟨_, rfl⟩
  rw [← hN] at HA HB z1 ⊢
  have HN := Lib.hid hN
  clear ha hb hk hN
  go_enter Tryd.func40, Tryd.ntmps40
  go_wp2_with fail
  go_loopw [14] (fun iv wr => ∃ k : Nat, k ≤ N ∧ iv = .int .i64 k ∧ Hid (Kept (fun _ => False) w wr)) (fun iv _ => N - (intOf iv).toNat)
  case atStart => exact ⟨0, by omega, rfl, Kept.refl _ _⟩
  case round =>
    obtain ⟨k, hk, rfl, hkw⟩ := hrel
    have l0 : (0 : Int) ≤ (k : Int) := by omega
    by_cases hlt : k < N
    · have l1 : (k : Int) < (N : Int) := by omega
      obtain ⟨g, off, rfl, hgl, c0, c1, c2, c3⟩ := (HA.out.kept hkw.out (fun _ _ h => h)).at (k := k) (by have := HN.out; omega)
      obtain ⟨h, off2, rfl, hhl, d0, d1, d2, d3⟩ := (HB.out.kept hkw.out (fun _ _ h => h)).at (k := k) (by have := HN.out; omega)
      have h256 := HKK.out k (by have := HN.out; omega)
      obtain ⟨x, hx⟩ : ∃ x, x = l.getD k tok0 := ⟨_, rfl⟩
      rw [← hx] at c0 c1 c2 c3 d0 d1 d2 d3 h256
      have HT := Lib.hid (fun W => told_any x h256 W)
      obtain ⟨kk, t, n, i⟩ := x
      simp only [tkV] at c0 c1 c2 c3 d0 d1 d2 d3 HT
      have HK0 := Lib.hid (hkw.out.then (Kept.alloc (fun _ => False) wr (.cells #[.int .u8 (kk : Int), .string t, .int .i64 n, .int .i64 i] 31)))
      have b0 : (wr.alloc (.cells #[.int .u8 (kk : Int), .string t, .int .i64 n, .int .i64 i] 31)).cell? ⟨wr.heap.size, 0, none⟩ = some (.int .u8 (kk : Int)) := by go_simp
      have b1 : (wr.alloc (.cells #[.int .u8 (kk : Int), .string t, .int .i64 n, .int .i64 i] 31)).cell? ⟨wr.heap.size, 1, none⟩ = some (.string t) := by go_simp
      have b2 : (wr.alloc (.cells #[.int .u8 (kk : Int), .string t, .int .i64 n, .int .i64 i] 31)).cell? ⟨wr.heap.size, 2, none⟩ = some (.int .i64 n) := by go_simp
      have b3 : (wr.alloc (.cells #[.int .u8 (kk : Int), .string t, .int .i64 n, .int .i64 i] 31)).cell? ⟨wr.heap.size, 3, none⟩ = some (.int .i64 i) := by go_simp
      have bl : wr.heap.size < (wr.alloc (.cells #[.int .u8 (kk : Int), .string t, .int .i64 n, .int .i64 i] 31)).heap.size := by simp
      have HC := Lib.hid (fun (W : World) (q : Kept (fun _ => False) (wr.alloc (.cells #[.int .u8 (kk : Int), .string t, .int .i64 n, .int .i64 i] 31)) W) =>
        (show W.cell? ⟨wr.heap.size, 0, none⟩ = some (.int .u8 (kk : Int)) ∧ W.cell? ⟨wr.heap.size, 1, none⟩ = some (.string t) ∧ W.cell? ⟨wr.heap.size, 2, none⟩ = some (.int .i64 n) ∧ W.cell? ⟨wr.heap.size, 3, none⟩ = some (.int .i64 i) ∧
            W.cell? ⟨h, off2 + k * 4, none⟩ = some (.int .i64 (kk : Int)) ∧ W.cell? ⟨h, off2 + k * 4 + 1, none⟩ = some (.string t) ∧ W.cell? ⟨h, off2 + k * 4 + 2, none⟩ = some (.int .i64 n) ∧ W.cell? ⟨h, off2 + k * 4 + 3, none⟩ = some (.int .i64 i) from by
          have kq := (Kept.alloc (fun _ => False) wr (.cells #[.int .u8 (kk : Int), .string t, .int .i64 n, .int .i64 i] 31)).then q
          exact ⟨(q.cell (p := ⟨wr.heap.size, 0, none⟩) bl (fun h => h)).trans b0, (q.cell (p := ⟨wr.heap.size, 1, none⟩) bl (fun h => h)).trans b1, (q.cell (p := ⟨wr.heap.size, 2, none⟩) bl (fun h => h)).trans b2, (q.cell (p := ⟨wr.heap.size, 3, none⟩) bl (fun h => h)).trans b3,
            (kq.cell (p := ⟨h, off2 + k * 4, none⟩) hhl (fun h => h)).trans d0, (kq.cell (p := ⟨h, off2 + k * 4 + 1, none⟩) hhl (fun h => h)).trans d1, (kq.cell (p := ⟨h, off2 + k * 4 + 2, none⟩) hhl (fun h => h)).trans d2, (kq.cell (p := ⟨h, off2 + k * 4 + 3, none⟩) hhl (fun h => h)).trans d3⟩))
      clear hx h256 b0 b1 b2 b3 bl d0 d1 d2 d3
      go_wp2_with fail
      generalize wr.alloc (.cells #[.int .u8 (kk : Int), .string t, .int .i64 n, .int .i64 i] 31) = w5 at HC HK0 ⊢
      generalize wr.heap.size = bx at *
      have D5 := Lib.hid ((Kept.refl (fun _ => False) w5).drew)
      obtain ⟨b0, b1, b2, b3, d0, d1, d2, d3⟩ := HC.out w5 (Kept.refl _ _)
      clear c0 c1 c2 c3
      go_region_held3 (fun w' => w'.cell? ⟨bx, 0, none⟩ = some (.int .u8 (kk : Int)) ∧ w'.cell? ⟨bx, 1, none⟩ = some (.string t) ∧ w'.cell? ⟨bx, 2, none⟩ = some (.int .i64 n) ∧ w'.cell? ⟨bx, 3, none⟩ = some (.int .i64 i) ∧ w'.cell? ⟨h, off2 + k * 4, none⟩ = some (.int .i64 (kk : Int)) ∧ w'.cell? ⟨h, off2 + k * 4 + 1, none⟩ = some (.string t) ∧ w'.cell? ⟨h, off2 + k * 4 + 2, none⟩ = some (.int .i64 n) ∧ w'.cell? ⟨h, off2 + k * 4 + 3, none⟩ = some (.int .i64 i))
        (first | exact HC.out _ D6.out | exact HC.out _ D5.out)
        ((go_at_call 20; (with_reducible refine (HT.out _).mono ?_); rintro e w6 ⟨rfl, k6⟩; have D6 := Lib.hid (D5.out.then k6); clear k6))
      all_goals
        have HKF := Lib.hid (HK0.out.then D6.out)
        go_wp2_with fail
        go_roundw
        case rel => first | exact ⟨k + 1, by omega, by go_num, HKF⟩ | ((repeat apply Exists.intro); exact ⟨⟨k + 1, by omega, by go_num, HKF⟩, rfl⟩)
        case measure => simp [intOf]; omega
    · have l1 : ¬ (k : Int) < (N : Int) := by omega
      go_wp2_with fail
      go_ret
      exact ⟨rfl, hkw.out⟩
end Go.Proofs.YthkjcgcfbodgbaaDoor
