/-
  arbaclaw02.WireNil: the walk.
-/
import Derived.Test.YtljjhdfackicpaaDoorWnB
import Derived.Test.YtljjhdfackicpaaDoorAwake
namespace Go.Proofs.YtljjhdfackicpaaDoor
open Go.RowKit
attribute [local go_sem ↓] Go.wp_at_zero Go.wp_at_succ
set_option linter.unusedSimpArgs false
set_option linter.unusedVariables false

set_option maxRecDepth 100000 in
theorem agree_nil (rb k : Nat) (m lo : Int) (w : World) (hc : w.cell? ⟨rb, 1, none⟩ = some (.int .i64 1)) (hT : Tz w) :
    Calls Tryd.prog 48 #[.pointer none, .pointer (some ⟨rb, 0, none⟩), .agg #[.int .u8 k, .int .i64 m, .int .i64 lo]] w fun e w' => (∃ q, e = .returned q) ∧ Kept (fun _ => False) w w' := by
  have h11 : ((k : Int) % 11) = 0 ∨ ((k : Int) % 11) = 1 ∨ ((k : Int) % 11) = 2 ∨ ((k : Int) % 11) = 3 ∨ ((k : Int) % 11) = 4 ∨ ((k : Int) % 11) = 5 ∨ ((k : Int) % 11) = 6 ∨ ((k : Int) % 11) = 7 ∨ ((k : Int) % 11) = 8 ∨ ((k : Int) % 11) = 9 ∨ ((k : Int) % 11) = 10 := by omega
  rcases h11 with h | h | h | h | h | h | h | h | h | h | h
  · exact ag0 rb k m lo w hc h
  · exact ag1 rb k m lo w hc h
  · exact ag2 rb k m lo w hc h
  · exact ag3 rb k m lo w hc h
  · exact ag4 rb k m lo w hc h
  · exact ag5 rb k m lo w hc h
  · exact ag6 rb k m lo w hc h
  · exact ag7 rb k m lo w hc h
  · exact ag8 rb k m lo w hc hT h
  · exact ag9 rb k m lo w hc h
  · exact ag10 rb k m lo w hc h

set_option maxRecDepth 100000 in
theorem put_nil (w : World) (k U : Nat) (S : Int) (a : Option Addr) (n c : Nat) (bs : List Nat) (hb : Reads w (.slice a n c) bs) (hby : ∀ x ∈ bs, x < 256) (hU : Hid (U < 18446744073709551616)) (hS : Hid (-9223372036854775808 ≤ S ∧ S < 9223372036854775808)) :
    Calls Tryd.prog 53 #[.pointer none, .agg #[.int .u8 k, .int .u64 U, .int .i64 S, .slice a n c]] w fun e w' => (∃ q, e = .returned q) ∧ Kept (fun _ => False) w w' := by
  have h7 : ((k : Int) % 7) = 0 ∨ ((k : Int) % 7) = 1 ∨ ((k : Int) % 7) = 2 ∨ ((k : Int) % 7) = 3 ∨ ((k : Int) % 7) = 4 ∨ ((k : Int) % 7) = 5 ∨ ((k : Int) % 7) = 6 := by omega
  have h2 : ((U : Int) % 2) = 1 ∨ ((U : Int) % 2) = 0 := by omega
  rcases h7 with h | h | h | h | h | h | h
  · exact pn0 w k U S a n c bs hb hby hU h
  · exact pn1 w k U S a n c bs hb hby hS h
  · exact pn2 w k U S a n c bs hb hby h
  · exact pn3 w k U S a n c bs hb hby h
  · rcases h2 with h2 | h2
    · exact pn4t w k U S a n c bs hb hby h2 h
    · exact pn4f w k U S a n c bs hb hby h2 h
  · exact pn5 w k U S a n c bs hb hby h
  · exact pn6 w k U S a n c bs hb hby h

set_option maxRecDepth 100000 in
set_option maxHeartbeats 3200000 in
theorem nil_any (k U : Nat) (S : Int) (a : Option Addr) (n c : Nat) (bs : List Nat) (k2 : Nat) (m lo : Int) (w : World) (hb : Reads w (.slice a n c) bs) (hby : ∀ x ∈ bs, x < 256) (hU : U < 18446744073709551616) (hS : -9223372036854775808 ≤ S ∧ S < 9223372036854775808) (hT : Tz w) :
    Calls Tryd.prog 12 #[.agg #[.int .u8 k, .int .u64 U, .int .i64 S, .slice a n c], .agg #[.int .u8 k2, .int .i64 m, .int .i64 lo]] w fun e w' => e = .returned (.bool true) ∧ Kept (fun _ => False) w w' := by
  have HB := Lib.hid hb; have HBY := Lib.hid hby; have HU := Lib.hid hU; have HS := Lib.hid hS; have HT := Lib.hid hT
  have KA := Lib.hid ((Kept.alloc (fun _ => False) w (.cells #[.int .u8 k, .int .u64 U, .int .i64 S, .slice a n c] 78)).then (Kept.alloc (fun _ => False) (w.alloc (.cells #[.int .u8 k, .int .u64 U, .int .i64 S, .slice a n c] 78)) (.cells #[.int .u8 k2, .int .i64 m, .int .i64 lo] 73)))
  have hbx : ∀ W, Kept (fun _ => False) ((w.alloc (.cells #[.int .u8 k, .int .u64 U, .int .i64 S, .slice a n c] 78)).alloc (.cells #[.int .u8 k2, .int .i64 m, .int .i64 lo] 73)) W → W.cell? ⟨w.heap.size, 0, none⟩ = some (.int .u8 k) ∧ W.cell? ⟨w.heap.size, 1, none⟩ = some (.int .u64 U) ∧ W.cell? ⟨w.heap.size, 2, none⟩ = some (.int .i64 S) ∧ W.cell? ⟨w.heap.size, 3, none⟩ = some (.slice a n c) ∧ W.cell? ⟨w.heap.size + 1, 0, none⟩ = some (.int .u8 k2) ∧ W.cell? ⟨w.heap.size + 1, 1, none⟩ = some (.int .i64 m) ∧ W.cell? ⟨w.heap.size + 1, 2, none⟩ = some (.int .i64 lo) := fun W hk => ⟨(hk.cell (p := ⟨w.heap.size, 0, none⟩) (by simp; omega) (fun h => h)).trans (by go_simp), (hk.cell (p := ⟨w.heap.size, 1, none⟩) (by simp; omega) (fun h => h)).trans (by go_simp), (hk.cell (p := ⟨w.heap.size, 2, none⟩) (by simp; omega) (fun h => h)).trans (by go_simp), (hk.cell (p := ⟨w.heap.size, 3, none⟩) (by simp; omega) (fun h => h)).trans (by go_simp), (hk.cell (p := ⟨w.heap.size + 1, 0, none⟩) (by simp) (fun h => h)).trans (by go_simp), (hk.cell (p := ⟨w.heap.size + 1, 1, none⟩) (by simp) (fun h => h)).trans (by go_simp), (hk.cell (p := ⟨w.heap.size + 1, 2, none⟩) (by simp) (fun h => h)).trans (by go_simp)⟩
  have HBX := Lib.hid hbx
  clear hb hby hU hS hT hbx
  go_enter Tryd.func12, Tryd.ntmps12
  go_wp2_with fail
  refine (awake_any _).mono ?_
  rintro e w0 ⟨rfl, hk0⟩
  obtain ⟨c0, c1, c2, c3, -⟩ := HBX.out w0 hk0
  have H0 := Lib.hid hk0
  have HK0 := Lib.hid (KA.out.then hk0)
  clear hk0
  go_wp2_with fail
  refine (put_nil w0 k U S a n c bs (HB.out.kept HK0.out (fun _ _ h => h)) HBY.out HU HS).mono ?_
  rintro e w2 ⟨⟨q, rfl⟩, hk2⟩
  obtain ⟨-, -, -, -, d0, d1, d2⟩ := HBX.out w2 (H0.out.then hk2)
  have HK2 := Lib.hid (HK0.out.then hk2)
  clear hk2 c0 c1 c2 c3
  have hbl : w.heap.size + 1 < w2.heap.size := World.block_lt_of_cell? w2 _ d0
  have HKB := Lib.hid (Kept.alloc (fun _ => False) w2 (.cells #[.slice none 0 0, .int .i64 1] 70))
  have hrc : (w2.alloc (.cells #[.slice none 0 0, .int .i64 1] 70)).cell? ⟨w2.heap.size, 1, none⟩ = some (.int .i64 1) := by go_simp
  have HRC := Lib.hid hrc
  clear hrc
  go_wp2_with fail
  refine (agree_nil w2.heap.size k2 m lo _ HRC.out (HT.out.kept (HK2.out.then HKB.out) (fun h => h))).mono ?_
  rintro e w3 ⟨⟨q3, rfl⟩, hk3⟩
  have HK3 := Lib.hid ((HK2.out.then HKB.out).then hk3)
  have HKD := Lib.hid (HK3.out.drew)
  clear hk3 d0 d1 d2 hbl
  go_wp2_with fail
  refine (nw_out _).mono ?_
  rintro e w9 ⟨rfl, rfl⟩
  go_wp2_with fail
  refine (nr_left _).mono ?_
  rintro e w9 ⟨rfl, rfl⟩
  go_wp2_with fail
  refine (nr_err _).mono ?_
  rintro e w9 ⟨rfl, rfl⟩
  go_wp2_with fail
  refine (nr_end _).mono ?_
  rintro e w9 ⟨rfl, rfl⟩
  go_wp2_with fail
  refine (nr_uint _ _).mono ?_
  rintro e w9 ⟨rfl, rfl⟩
  go_wp2_with fail
  refine (nr_bytes _ _).mono ?_
  rintro e w9 ⟨rfl, rfl⟩
  go_wp2_with fail
  refine (nr_flag _).mono ?_
  rintro e w9 ⟨rfl, rfl⟩
  go_wp2_with fail
  refine (nr_set _ _).mono ?_
  rintro e w5 ⟨rfl, k5⟩
  have HK5 := Lib.hid (HK3.out.then k5)
  clear k5
  go_wp2_with fail
  refine (empty_any w5 0 0 0 none).mono ?_
  rintro e w6 ⟨rfl, k6⟩
  have HK6 := Lib.hid (HK5.out.then k6)
  clear k6
  go_wp2_with fail
  go_ret
  exact ⟨rfl, HK6.out⟩
end Go.Proofs.YtljjhdfackicpaaDoor
