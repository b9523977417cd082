/-
  wire: the methods of nil writers and readers; the reference's reader with an error.
-/
import Derived.Test.YtljjhdfackicpaaDoorPutV
import Derived.Test.YtljjhdfackicpaaDoorBList
namespace Go.Proofs.YtljjhdfackicpaaDoor
open Go.RowKit

set_option maxRecDepth 100000 in
theorem nw_uint (x : Int) (w : World) : Calls Tryd.prog 81 #[.pointer none, .int .u64 x] w fun e w' => e = .returned (.tuple #[]) ∧ w = w' := by
  go_enter Tryd.func81, Tryd.ntmps81
  go_wp2_with fail
  refine bodyPost_ret (results_none rfl _ _ _) rfl ?_
  exact ⟨rfl, rfl⟩
set_option maxRecDepth 100000 in
theorem nw_string (s : ByteArray) (w : World) : Calls Tryd.prog 83 #[.pointer none, .string s] w fun e w' => e = .returned (.tuple #[]) ∧ w = w' := by
  go_enter Tryd.func83, Tryd.ntmps83
  go_wp2_with fail
  refine bodyPost_ret (results_none rfl _ _ _) rfl ?_
  exact ⟨rfl, rfl⟩
set_option maxRecDepth 100000 in
theorem nw_raw (p : Value) (w : World) : Calls Tryd.prog 108 #[.pointer none, p] w fun e w' => e = .returned (.tuple #[]) ∧ w = w' := by
  go_enter Tryd.func108, Tryd.ntmps108
  go_wp2_with fail
  refine bodyPost_ret (results_none rfl _ _ _) rfl ?_
  exact ⟨rfl, rfl⟩
set_option maxRecDepth 100000 in
theorem nw_out  (w : World) : Calls Tryd.prog 54 #[.pointer none] w fun e w' => e = .returned (.slice none 0 0) ∧ w = w' := by
  go_enter Tryd.func54, Tryd.ntmps54
  go_wp2_with fail
  go_ret
  exact ⟨rfl, rfl⟩
set_option maxRecDepth 100000 in
theorem nw_int (v : Int) (w : World) : Calls Tryd.prog 82 #[.pointer none, .int .i64 v] w fun e w' => e = .returned (.tuple #[]) ∧ w = w' := by
  by_cases h : v < 0
  all_goals
    go_enter Tryd.func82, Tryd.ntmps82
    go_wp2_with fail
    refine (nw_uint _ w).mono ?_
    rintro e w1 ⟨rfl, rfl⟩
    go_wp2_with fail
    go_end0
    exact ⟨rfl, rfl⟩
set_option maxRecDepth 100000 in
theorem nw_bytes (a : Option Addr) (n c : Nat) (w : World) : Calls Tryd.prog 105 #[.pointer none, .slice a n c] w fun e w' => e = .returned (.tuple #[]) ∧ w = w' := by
  go_enter Tryd.func105, Tryd.ntmps105
  go_wp2_with fail
  refine (nw_uint _ w).mono ?_
  rintro e w1 ⟨rfl, rfl⟩
  go_wp2_with fail
  refine (nw_raw _ w).mono ?_
  rintro e w1 ⟨rfl, rfl⟩
  go_wp2_with fail
  go_end0
  exact ⟨rfl, rfl⟩
set_option maxRecDepth 100000 in
theorem nw_flag (b : Bool) (w : World) : Calls Tryd.prog 106 #[.pointer none, .bool b] w fun e w' => e = .returned (.tuple #[]) ∧ w = w' := by
  cases b
  all_goals
    go_enter Tryd.func106, Tryd.ntmps106
    go_wp2_with fail
    refine (nw_uint _ w).mono ?_
    rintro e w1 ⟨rfl, rfl⟩
    go_wp2_with fail
    go_end0
    exact ⟨rfl, rfl⟩
set_option maxRecDepth 100000 in
theorem nw_set (v : Value) (M : Nat) (hM : Small M) (w : World) (h : SetV w v M) : Calls Tryd.prog 84 #[.pointer none, v] w fun e w' => e = .returned (.tuple #[]) ∧ Kept (fun _ => False) w w' := by
  obtain ⟨hv, hs, rfl, hw, hc, hn⟩ := h.ex
  have hw2 := hw.kept (Kept.alloc (fun _ => False) w (.cells #[.int .u64 (M % 2 ^ 64 : Nat), hv] 28)) (fun _ _ h => h)
  have HB := Lib.hid (bytes_any _ _ M ⟨⟨_, _, rfl, hw2, hc, hn⟩⟩ hM)
  have KA := Lib.hid (Kept.alloc (fun _ => False) w (.cells #[.int .u64 (M % 2 ^ 64 : Nat), hv] 28))
  clear hw2 hc hn h
  obtain ⟨sa, sc, rfl⟩ := hw.form
  clear hw
  generalize hs.length = sn at *
  generalize M % 2^64 = lo at *
  go_enter Tryd.func84, Tryd.ntmps84
  go_wp2_with fail
  refine HB.out.mono ?_
  rintro e w1 ⟨p, rfl, hf, hk⟩
  obtain ⟨pa, pn, pc, rfl⟩ : ∃ a n c, p = .slice a n c := by
    rcases hf.reads with ⟨h, _⟩ | ⟨g, off, cap, h, _⟩
    · exact ⟨_, _, _, h⟩
    · exact ⟨_, _, _, h⟩
  have HK := Lib.hid hk
  clear hf hk
  go_wp2_with fail
  refine (nw_bytes pa pn pc w1).mono ?_
  rintro e w2 ⟨rfl, rfl⟩
  go_wp2_with fail
  go_end0
  exact ⟨rfl, KA.out.then HK.out⟩
set_option maxRecDepth 100000 in
theorem nr_ready  (w : World) : Calls Tryd.prog 101 #[.pointer none] w fun e w' => e = .returned (.bool false) ∧ w = w' := by
  go_enter Tryd.func101, Tryd.ntmps101
  go_wp2_with fail
  go_ret
  exact ⟨rfl, rfl⟩
set_option maxRecDepth 100000 in
theorem nr_err  (w : World) : Calls Tryd.prog 49 #[.pointer none] w fun e w' => e = .returned (.int .i64 1) ∧ w = w' := by
  go_enter Tryd.func49, Tryd.ntmps49
  go_wp2_with fail
  go_ret
  exact ⟨rfl, rfl⟩
set_option maxRecDepth 100000 in
theorem nr_left  (w : World) : Calls Tryd.prog 50 #[.pointer none] w fun e w' => e = .returned (.int .i64 0) ∧ w = w' := by
  go_enter Tryd.func50, Tryd.ntmps50
  go_wp2_with fail
  go_ret
  exact ⟨rfl, rfl⟩
set_option maxRecDepth 100000 in
theorem nr_fail (x : Int) (w : World) : Calls Tryd.prog 100 #[.pointer none, .int .i64 x] w fun e w' => e = .returned (.tuple #[]) ∧ w = w' := by
  go_enter Tryd.func100, Tryd.ntmps100
  go_wp2_with fail
  refine (nr_ready w).mono ?_
  rintro e w1 ⟨rfl, rfl⟩
  go_wp2_with fail
  go_end0
  exact ⟨rfl, rfl⟩
set_option maxRecDepth 100000 in
theorem nr_readyFor (n : Int) (w : World) : Calls Tryd.prog 131 #[.pointer none, .int .i64 n] w fun e w' => e = .returned (.bool false) ∧ w = w' := by
  by_cases h : n < 0
  · go_enter Tryd.func131, Tryd.ntmps131
    go_wp2_with fail
    refine (nr_fail 1 w).mono ?_
    rintro e w1 ⟨rfl, rfl⟩
    go_wp2_with fail
    refine (nr_ready w).mono ?_
    rintro e w1 ⟨rfl, rfl⟩
    go_wp2_with fail
    go_ret
    exact ⟨rfl, rfl⟩
  · go_enter Tryd.func131, Tryd.ntmps131
    go_wp2_with fail
    refine (nr_ready w).mono ?_
    rintro e w1 ⟨rfl, rfl⟩
    go_wp2_with fail
    go_ret
    exact ⟨rfl, rfl⟩
set_option maxRecDepth 100000 in
theorem nr_uint (x : Int) (w : World) : Calls Tryd.prog 55 #[.pointer none, .int .u64 x] w fun e w' => e = .returned (.int .u64 0) ∧ w = w' := by
  go_enter Tryd.func55, Tryd.ntmps55
  go_wp2_with fail
  refine (nr_ready w).mono ?_
  rintro e w1 ⟨rfl, rfl⟩
  go_wp2_with fail
  go_ret
  exact ⟨rfl, rfl⟩
set_option maxRecDepth 100000 in
theorem nr_number (x : Int) (w : World) : Calls Tryd.prog 88 #[.pointer none, .int .i64 x] w fun e w' => e = .returned (.int .i64 0) ∧ w = w' := by
  go_enter Tryd.func88, Tryd.ntmps88
  go_wp2_with fail
  refine (nr_readyFor x w).mono ?_
  rintro e w1 ⟨rfl, rfl⟩
  go_wp2_with fail
  go_ret
  exact ⟨rfl, rfl⟩
set_option maxRecDepth 100000 in
theorem nr_int (x y : Int) (w : World) : Calls Tryd.prog 90 #[.pointer none, .int .i64 x, .int .i64 y] w fun e w' => e = .returned (.int .i64 0) ∧ w = w' := by
  go_enter Tryd.func90, Tryd.ntmps90
  go_wp2_with fail
  refine (nr_ready w).mono ?_
  rintro e w1 ⟨rfl, rfl⟩
  go_wp2_with fail
  go_ret
  exact ⟨rfl, rfl⟩
set_option maxRecDepth 100000 in
theorem nr_piece (x : Int) (w : World) : Calls Tryd.prog 112 #[.pointer none, .int .i64 x] w fun e w' => e = .returned (.slice none 0 0) ∧ w = w' := by
  go_enter Tryd.func112, Tryd.ntmps112
  go_wp2_with fail
  refine (nr_readyFor x w).mono ?_
  rintro e w1 ⟨rfl, rfl⟩
  go_wp2_with fail
  go_ret
  exact ⟨rfl, rfl⟩
set_option maxRecDepth 100000 in
theorem nr_flag  (w : World) : Calls Tryd.prog 57 #[.pointer none] w fun e w' => e = .returned (.bool false) ∧ w = w' := by
  go_enter Tryd.func57, Tryd.ntmps57
  go_wp2_with fail
  refine (nr_ready w).mono ?_
  rintro e w1 ⟨rfl, rfl⟩
  go_wp2_with fail
  go_ret
  exact ⟨rfl, rfl⟩
set_option maxRecDepth 100000 in
theorem nr_raw (x : Int) (w : World) : Calls Tryd.prog 95 #[.pointer none, .int .i64 x] w fun e w' => e = .returned (.slice none 0 0) ∧ w = w' := by
  go_enter Tryd.func95, Tryd.ntmps95
  go_wp2_with fail
  refine (nr_readyFor x w).mono ?_
  rintro e w1 ⟨rfl, rfl⟩
  go_wp2_with fail
  go_ret
  exact ⟨rfl, rfl⟩
set_option maxRecDepth 100000 in
theorem nr_count (x : Int) (w : World) : Calls Tryd.prog 97 #[.pointer none, .int .i64 x] w fun e w' => e = .returned (.int .i64 0) ∧ w = w' := by
  go_enter Tryd.func97, Tryd.ntmps97
  go_wp2_with fail
  refine (nr_readyFor x w).mono ?_
  rintro e w1 ⟨rfl, rfl⟩
  go_wp2_with fail
  go_ret
  exact ⟨rfl, rfl⟩
set_option maxRecDepth 100000 in
theorem nr_end (w : World) : Calls Tryd.prog 51 #[.pointer none] w fun e w' => e = .returned (.int .i64 1) ∧ w = w' := by
  go_enter Tryd.func51, Tryd.ntmps51
  go_wp2_with fail
  refine (nr_ready w).mono ?_
  rintro e w1 ⟨rfl, rfl⟩
  go_wp2_with fail
  refine (nr_err w).mono ?_
  rintro e w1 ⟨rfl, rfl⟩
  go_wp2_with fail
  go_ret
  exact ⟨rfl, rfl⟩
set_option maxRecDepth 100000 in
theorem nr_string (x : Int) (w : World) : Calls Tryd.prog 92 #[.pointer none, .int .i64 x] w fun e w' => e = .returned (.string ⟨#[]⟩) ∧ w = w' := by
  have hs := reads_str (w := w) (v := .slice none 0 0) (xs := []) (Or.inl ⟨rfl, rfl⟩)
  rw [show strOfNums (([] : List Nat).map fun n : Nat => (n : Int)) = ⟨#[]⟩ from rfl] at hs
  go_enter Tryd.func92, Tryd.ntmps92
  go_wp2_with fail
  refine (nr_piece x w).mono ?_
  rintro e w1 ⟨rfl, rfl⟩
  go_wp2_with fail
  go_ret
  exact ⟨rfl, rfl⟩
set_option maxRecDepth 100000 in
theorem nr_bytes (x : Int) (w : World) : Calls Tryd.prog 56 #[.pointer none, .int .i64 x] w fun e w' => e = .returned (.slice none 0 0) ∧ w = w' := by
  go_enter Tryd.func56, Tryd.ntmps56
  go_wp2_with fail
  refine (nr_piece x w).mono ?_
  rintro e w1 ⟨rfl, rfl⟩
  go_wp2_with fail
  refine (sh_Clone_nil 0 0 w).mono ?_
  rintro e w1 ⟨rfl, rfl⟩
  go_wp2_with fail
  go_ret
  exact ⟨rfl, rfl⟩
set_option maxRecDepth 100000 in
theorem nr_set (x : Int) (w : World) : Calls Tryd.prog 58 #[.pointer none, .int .i64 x] w fun e w' => e = .returned (.agg #[.int .u64 0, .slice none 0 0]) ∧ Kept (fun _ => False) w w' := by
  go_enter Tryd.func58, Tryd.ntmps58
  go_wp2_with fail
  refine (nr_ready _).mono ?_
  rintro e w1 ⟨rfl, rfl⟩
  go_wp2_with fail
  refine bodyPost_ret (v := .agg #[.int .u64 0, .slice none 0 0]) (by simp [results, Tryd.results58, go_sem]) rfl ⟨rfl, ?_⟩
  first | exact Kept.alloc _ _ _ | exact (Kept.alloc (fun _ => False) _ _).then (Kept.refl _ _)
set_option maxRecDepth 100000 in
theorem rr_uint (rb : Nat) (x : Int) (w : World) (hc : w.cell? ⟨rb, 1, none⟩ = some (.int .i64 1)) : Calls Tryd.prog 87 #[.pointer (some ⟨rb, 0, none⟩), .int .u64 x] w fun e w' => e = .returned (.int .u64 0) ∧ w = w' := by
  go_enter Tryd.func87, Tryd.ntmps87
  go_wp2_with fail
  go_ret
  exact ⟨rfl, rfl⟩
set_option maxRecDepth 100000 in
theorem rr_int (rb : Nat) (x y : Int) (w : World) (hc : w.cell? ⟨rb, 1, none⟩ = some (.int .i64 1)) : Calls Tryd.prog 91 #[.pointer (some ⟨rb, 0, none⟩), .int .i64 x, .int .i64 y] w fun e w' => e = .returned (.int .i64 0) ∧ w = w' := by
  go_enter Tryd.func91, Tryd.ntmps91
  go_wp2_with fail
  go_ret
  exact ⟨rfl, rfl⟩
set_option maxRecDepth 100000 in
theorem rr_bytes (rb : Nat) (x : Int) (w : World) (hc : w.cell? ⟨rb, 1, none⟩ = some (.int .i64 1)) : Calls Tryd.prog 93 #[.pointer (some ⟨rb, 0, none⟩), .int .i64 x] w fun e w' => e = .returned (.slice none 0 0) ∧ w = w' := by
  go_enter Tryd.func93, Tryd.ntmps93
  go_wp2_with fail
  go_ret
  exact ⟨rfl, rfl⟩
set_option maxRecDepth 100000 in
theorem rr_flag (rb : Nat)  (w : World) (hc : w.cell? ⟨rb, 1, none⟩ = some (.int .i64 1)) : Calls Tryd.prog 94 #[.pointer (some ⟨rb, 0, none⟩)] w fun e w' => e = .returned (.bool false) ∧ w = w' := by
  go_enter Tryd.func94, Tryd.ntmps94
  go_wp2_with fail
  go_ret
  exact ⟨rfl, rfl⟩
set_option maxRecDepth 100000 in
theorem rr_raw (rb : Nat) (x : Int) (w : World) (hc : w.cell? ⟨rb, 1, none⟩ = some (.int .i64 1)) : Calls Tryd.prog 96 #[.pointer (some ⟨rb, 0, none⟩), .int .i64 x] w fun e w' => e = .returned (.slice none 0 0) ∧ w = w' := by
  go_enter Tryd.func96, Tryd.ntmps96
  go_wp2_with fail
  go_ret
  exact ⟨rfl, rfl⟩
set_option maxRecDepth 100000 in
theorem rr_count (rb : Nat) (x : Int) (w : World) (hc : w.cell? ⟨rb, 1, none⟩ = some (.int .i64 1)) : Calls Tryd.prog 98 #[.pointer (some ⟨rb, 0, none⟩), .int .i64 x] w fun e w' => e = .returned (.int .i64 0) ∧ w = w' := by
  go_enter Tryd.func98, Tryd.ntmps98
  go_wp2_with fail
  go_ret
  exact ⟨rfl, rfl⟩
set_option maxRecDepth 100000 in
theorem rr_set (rb : Nat) (x : Int) (w : World) (hc : w.cell? ⟨rb, 1, none⟩ = some (.int .i64 1)) : Calls Tryd.prog 99 #[.pointer (some ⟨rb, 0, none⟩), .int .i64 x] w fun e w' => e = .returned (.slice none 0 0) ∧ w = w' := by
  go_enter Tryd.func99, Tryd.ntmps99
  go_wp2_with fail
  go_ret
  exact ⟨rfl, rfl⟩
set_option maxRecDepth 100000 in
theorem rr_end (rb : Nat)  (w : World) (hc : w.cell? ⟨rb, 1, none⟩ = some (.int .i64 1)) : Calls Tryd.prog 52 #[.pointer (some ⟨rb, 0, none⟩)] w fun e w' => e = .returned (.int .i64 1) ∧ w = w' := by
  go_enter Tryd.func52, Tryd.ntmps52
  go_wp2_with fail
  go_ret
  exact ⟨rfl, rfl⟩
set_option maxRecDepth 100000 in
theorem rr_number (rb : Nat) (x : Int) (w : World) (hc : w.cell? ⟨rb, 1, none⟩ = some (.int .i64 1)) : Calls Tryd.prog 89 #[.pointer (some ⟨rb, 0, none⟩), .int .i64 x] w fun e w' => e = .returned (.int .i64 0) ∧ w = w' := by
  obtain ⟨y, hy⟩ : ∃ y, y = max x 0 := ⟨_, rfl⟩
  have hm : max x 0 = y := hy.symm
  clear hy
  go_enter Tryd.func89, Tryd.ntmps89
  go_wp2_with fail
  all_goals
    refine (rr_uint rb _ w hc).mono ?_
    rintro e w1 ⟨rfl, rfl⟩
    go_wp2_with fail
    go_ret
    exact ⟨rfl, rfl⟩
end Go.Proofs.YtljjhdfackicpaaDoor
