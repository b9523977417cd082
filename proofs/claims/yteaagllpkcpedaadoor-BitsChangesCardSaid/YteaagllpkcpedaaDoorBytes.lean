/-
  (bits.Set).Greatest and (bits.Set).Bytes.
-/
import Derived.Test.YteaagllpkcpedaaDoorOf
import Derived.Test.YteaagllpkcpedaaDoorShelf
import Derived.Test.YteaagllpkcpedaaDoorMake
namespace Go.Proofs.YteaagllpkcpedaaDoor
open Go.RowKit

set_option maxRecDepth 100000 in
set_option maxHeartbeats 800000 in
theorem greatest_any (w : World) (v : Value) (M : Nat) (h : SetV w v M) (hs0 : Small M) :
    Calls Tryd.prog 47 #[v] w fun e w' => e = .returned (.tuple #[.int .i64 (if M = 0 then 0 else Nat.log2 M : Nat), .bool (decide (M ≠ 0))]) ∧ Kept (fun _ => False) w w' := by
  obtain ⟨hv, hs, rfl, hw, hc, hnil⟩ := h.ex
  have hsmall := hc.small hs0
  obtain ⟨a, c, hform⟩ := hw.form
  obtain ⟨lo, hlo⟩ : ∃ lo : Nat, lo = M % 2 ^ 64 := ⟨_, rfl⟩
  rw [← hlo]
  by_cases h0 : M = 0
  · rw [if_pos h0, show decide (M ≠ 0) = false by simp [h0]]
    have h1 : hs.length = 0 := hc.nil.2 (by rw [h0])
    have hlo0 : lo = 0 := by rw [hlo, h0]
    rw [h1] at hform
    subst hlo0 hform
    clear hw hnil h h0 hs0 hc hlo hsmall h1
    have HE := fun W => Lib.hid (empty_any W 0 0 c a)
    go_enter Tryd.func47, Tryd.ntmps47
    go_wp2_with fail
    refine (HE _).out.mono ?_
    rintro e w1 ⟨rfl, hk1⟩
    go_wp2
    go_ret2
    exact ⟨rfl, (Kept.alloc (fun _ => False) _ _).trans hk1 (fun _ _ h => h) (fun _ _ h => h)⟩
  · rw [if_neg h0, show decide (M ≠ 0) = true by simp [h0]]
    have htop := top_eq M hs hc h0 (wd lo hs hs.length) (by rw [hlo]; rfl)
    have hemp : ¬ (lo = 0 ∧ hs.length = 0) := by
      rintro ⟨h1, h2⟩
      have h3 := hc.nil.1 h2
      rw [hlo] at h1
      exact h0 (by omega)
    have hdec : decide (lo = 0 ∧ hs.length = 0) = false := by simpa using hemp
    obtain ⟨n, hn⟩ : ∃ n, n = hs.length := ⟨_, rfl⟩
    rw [← hn] at htop hdec hform hsmall
    obtain ⟨y, hy⟩ : ∃ y, y = wd lo hs n := ⟨_, rfl⟩
    rw [← hy] at htop
    obtain ⟨T, hT⟩ : ∃ T, T = Nat.log2 M := ⟨_, rfl⟩
    rw [← hT] at htop ⊢
    obtain ⟨t1, t2, t3, t4⟩ := htop
    have t3' : Hid (y < 18446744073709551616) := t3
    clear t3
    have HW := Lib.hid hw
    have HY := Lib.hid hy; clear hy
    subst hform
    clear hw hnil hemp hn h0 hlo hT
    have HD := Lib.hid hdec; clear hdec
    generalize hbl : Lib.bitLen y = bl at t1 t2 t4
    have HBL := Lib.hid hbl; clear hbl
    clear h hs0 hc
    have e0 : (1 + (n : Int) - 1) = (n : Int) := by omega
    obtain ⟨n64, hn64⟩ : ∃ n64 : Nat, n64 = 64 * n := ⟨_, rfl⟩
    have e1 : IntKind.i64.wrap ((n : Int) * 64) = (n64 : Int) := by rw [IntWalk.i64_in _ (by omega)]; omega
    have hn64le : n64 ≤ 4032 := by omega
    have t5 : Hid (n64 + bl - 1 = T) := by show _ = _; omega
    have HN64 := Lib.hid hn64; clear hn64
    have T4 := Lib.hid t4; clear t4
    go_enter Tryd.func47, Tryd.ntmps47
    go_wp2_with fail
    refine (empty_any _ lo n c a).mono ?_
    rintro e w1 ⟨rfl, hk1⟩
    rw [HD.out]
    obtain ⟨b0, b1, _⟩ := box_cells hk1 (fun h => h)
    go_wp2_with fail
    refine (words_any _ lo n c a (by omega)).mono ?_
    rintro e w2 ⟨rfl, hk2⟩
    have hk12 := hk1.then hk2
    clear b0 b1 hk1 hk2
    obtain ⟨b0, b1, _⟩ := box_cells hk12 (fun h => h)
    go_wp2_with fail
    refine (word_any _ lo _ hs n (HW.out.kept ((Kept.alloc (fun _ => False) w _).then hk12) (fun _ _ h => h)) (by omega)).mono ?_
    rintro e w3 ⟨rfl, hk3⟩
    rw [← HY.out]
    go_wp2_with fail
    refine (sh_Len64 _ _ (by omega) (by have := t3'.out; omega)).mono ?_
    rintro e w4 ⟨rfl, rfl⟩
    rw [Int.toNat_natCast, HBL.out]
    go_wp2_with fail
    go_ret2
    have ht : ((n64 : Int) + bl - 1) = (T : Int) := by have := t5.out; omega
    refine ⟨?_, (Kept.alloc (fun _ => False) w _).then (hk12.then hk3)⟩
    show Ending.returned (.tuple #[.int .i64 ((n64 : Int) + bl - 1), .bool true]) = _
    rw [ht]

theorem bv_set (xs : List Nat) (i z : Nat) : (bv xs).set i (.int .u8 (z : Int)) = bv (xs.set i z) := by simp [bv]
theorem bv_getD (xs : List Nat) (i : Nat) (h : i < xs.length) : (bv xs)[i]? = some (.int .u8 (xs.getD i 0 : Nat)) := by simp [bv, List.getD, h]
theorem bv_zero (n : Nat) : (madeCells #[Value.int .u8 0] n).toList = bv (List.replicate n 0) := by
  refine List.ext_getElem (by simp [madeCells, bv]) fun i h1 h2 => ?_
  simp [madeCells, bv, Nat.mod_one]
theorem info_u8b : (Tryd.prog.info? 5).map (fun i => (i.zero, i.size, i.bytes)) = some (some (.int .u8 0), 1, 1) := by kernel_rfl

theorem pad_getD (M k m : Nat) : (bl8 M k ++ List.replicate m 0).getD k 0 = 0 := by
  rw [List.getD_eq_getElem?_getD, List.getElem?_append_right (by simp [bl8])]
  simp only [bl8_length, Nat.sub_self, List.getElem?_replicate]
  split <;> rfl

theorem byte_shift (y S b : Nat) (h : b = y / 2 ^ S % 256) : IntKind.u8.wrap ((y : Int) / 2 ^ S) = (b : Int) := by
  rw [IntKind.wrap_u8', h]
  simp

set_option maxRecDepth 100000 in
set_option maxHeartbeats 1600000 in
theorem bytes_any (w : World) (v : Value) (M : Nat) (h : SetV w v M) (hs0 : Small M) :
    Calls Tryd.prog 30 #[v] w fun e w' => ∃ v', e = .returned v' ∧ Fresh w' w.heap.size v' (bytesOf M) ∧ Kept (fun _ => False) w w' := by
  obtain ⟨hv, hs, rfl, hw, hc, hnil⟩ := h.ex
  obtain ⟨i0, hi, hz0, hz1, hz2⟩ := info_parts info_u8b
  obtain ⟨lo, hlo⟩ : ∃ lo : Nat, lo = M % 2 ^ 64 := ⟨_, rfl⟩
  rw [← hlo] at h ⊢
  obtain ⟨a, c, hform⟩ := hw.form
  generalize hn : hs.length = n at hform
  have hsmall : n ≤ 63 := by rw [← hn]; exact hc.small hs0
  subst hform
  have HG := fun (W : World) (hk : Kept (fun _ => False) w W) => greatest_any W _ M ⟨⟨_, hs, by rw [← hlo], hw.kept hk (fun _ _ h => h), hc, hnil⟩⟩ hs0
  have HW := Lib.hid hw
  have HC := Lib.hid hc
  by_cases h0 : M = 0
  · have HG0 : Hid (∀ (W : World), Kept (fun _ => False) w W → Calls Tryd.prog 47 #[.agg #[.int .u64 lo, .slice a n c]] W fun e w' => e = .returned (.tuple #[.int .i64 0, .bool false]) ∧ Kept (fun _ => False) W w') := by
      intro W hk
      have := HG W hk
      rw [if_pos h0, show decide (M ≠ 0) = false by simp [h0]] at this
      exact this
    rw [show bytesOf M = [] from if_pos h0]
    clear h hc hw hnil hs0 h0 HG hlo hn HC HW
    go_enter Tryd.func30, Tryd.ntmps30
    go_wp2_with fail
    refine (HG0.out _ (Kept.alloc _ _ _)).mono ?_
    rintro e w1 ⟨rfl, hk1⟩
    go_wp2_with fail
    go_ret
    exact ⟨_, rfl, ⟨World.ownsRow_nil _ _ _ _, by intro k hk; simp [Value.ownBlock] at hk⟩, (Kept.alloc (fun _ => False) w _).then hk1⟩
  · have hT := log2_small hs0 h0
    have hB : bytesOf M = bl8 M (Nat.log2 M / 8 + 1) := if_neg h0
    have HG1 : Hid (∀ (W : World), Kept (fun _ => False) w W → Calls Tryd.prog 47 #[.agg #[.int .u64 lo, .slice a n c]] W fun e w' => e = .returned (.tuple #[.int .i64 (Nat.log2 M : Nat), .bool true]) ∧ Kept (fun _ => False) W w') := by
      intro W hk
      have := HG W hk
      rw [if_neg h0, show decide (M ≠ 0) = true by simp [h0]] at this
      exact this
    rw [hB]
    generalize Nat.log2 M = T at hT HG1 ⊢
    obtain ⟨N, hN⟩ : ∃ N, N = T / 8 + 1 := ⟨_, rfl⟩
    rw [← hN]
    have hN512 : N ≤ 512 := by omega
    have e1 : ((T : Int) / 8 + 1) = (N : Int) := by omega
    have HNN := Lib.hid hN; clear hN
    have HLO := Lib.hid hlo
    clear h hc hw hnil hs0 h0 HG hB hlo hn
    go_enter Tryd.func30, Tryd.ntmps30
    go_wp2_with fail
    refine (HG1.out _ (Kept.alloc _ _ _)).mono ?_
    rintro e w1 ⟨rfl, hk1⟩
    go_wp2_with (refine wpList_make_full _ rfl _ _ _ rfl w.heap.size 5 i0 _ 1 Tryd.underlying49 hi hz0 hz1 _ _ _ _ N rfl rfl rfl rfl (by rw [hz2]; omega) (by unfold maxLen; omega) (by have := hk1.size; simp at this; omega) ?_)
    intro wA hownA hgrowA
    rw [bv_zero] at hownA
    obtain ⟨_, _, hlt1⟩ := box_cells hk1 (fun h => h)
    obtain ⟨g, hg⟩ : ∃ g, g = w1.heap.size := ⟨_, rfl⟩
    rw [← hg] at hownA
    rw [← hg]
    have hgA : g < wA.heap.size := by
      obtain ⟨_, hh⟩ := hownA
      rcases hh with ⟨h, _⟩ | ⟨g', cap', cur, h, _, hg', _⟩
      · cases h
      · cases h; exact (Array.getElem?_eq_some_iff.1 hg').1
    have hwg : w.heap.size < g := by omega
    have hkA : Kept (fun _ => False) (w.alloc (.cells #[.int .u64 lo, .slice a n c] 28)) wA := hk1.then (Kept.ofGrown (S := fun _ => False) hgrowA (fun k e => by cases e))
    have HOA := Lib.hid hownA; clear hownA
    have HGE := Lib.hid hg; clear hg hgrowA hk1
    go_wp2_with fail
    go_loopw [20] (fun iv wr => ∃ k : Nat, k ≤ N ∧ iv = .int .i64 k ∧ Hid (wr.ownsRow w.heap.size 5 1 (.slice (some ⟨g, 0, none⟩) N N) N (bv (bl8 M k ++ List.replicate (N - k) 0))) ∧ Kept (fun k => k = g) wA wr) (fun iv _ => N - (intOf iv).toNat)
    case atStart => exact ⟨0, Nat.zero_le _, rfl, HOA.out, Kept.refl _ _⟩
    case round =>
      obtain ⟨k, hk, rfl, ho, hkr⟩ := hrel
      have hkb : Kept (fun k => k = g) (w.alloc (.cells #[.int .u64 lo, .slice a n c] 28)) wr := hkA.trans hkr (fun _ _ h => h.elim) (fun _ _ h => h)
      by_cases hlt : k < N
      · obtain ⟨b0, b1, hbl⟩ := box_cells hkb (by omega)
        obtain ⟨q, hq⟩ : ∃ q : Nat, q = k / 8 := ⟨_, rfl⟩
        obtain ⟨r, hr⟩ : ∃ r : Nat, r = k % 8 := ⟨_, rfl⟩
        obtain ⟨S, hS⟩ : ∃ S : Nat, S = 8 * r := ⟨_, rfl⟩
        have hq1 : ((k : Int) / 8) = (q : Int) := by omega
        have hqw : IntKind.i64.wrap (q : Int) = (q : Int) := IntWalk.i64_in _ (by omega)
        have hr1 : ((k : Int) % 8) = (r : Int) := by omega
        have hs1 : ((r : Int) * 8) = (S : Int) := by omega
        have hS0 : (0 : Int) ≤ (S : Int) := by omega
        have hS1 : (S : Int) ≤ 64 := by omega
        have hk0 : (0 : Int) ≤ (k : Int) := by omega
        have hk1 : (k : Int) < (N : Int) := by omega
        have HQ := Lib.hid hq; have HR := Lib.hid hr; have HS := Lib.hid hS; clear hq hr hS
        go_wp2_with fail
        have hW3 : Words wr (.slice a n c) hs := HW.out.kept (S := fun k => k = g) ((Kept.alloc (fun _ => False) w _).trans hkb (fun _ _ h => h.elim) (fun _ _ h => h)) (fun j hj e => by have := HW.out.lt j hj; omega)
        refine (word_any wr lo _ hs q hW3 (by have := HQ.out; omega)).mono ?_
        rintro e w3 ⟨rfl, hk3⟩
        obtain ⟨y, hy⟩ : ∃ y, y = wd lo hs q := ⟨_, rfl⟩
        rw [← hy]
        obtain ⟨b, hb⟩ : ∃ b, b = M / 2 ^ (8 * k) % 256 := ⟨_, rfl⟩
        have hbv := byte_shift y S b (by rw [hb, hy, wd, HLO.out, wd_word M hs HC.out q, HS.out, HQ.out, HR.out, byte_word])
        have ho3 := hk3.owns ho.out (fun _ _ h => h)
        have cg : w3.cell? ⟨g, k, none⟩ = some (.int .u8 0) := by
          rw [ho3.cellAt k (by omega), bv_getD _ _ (by simp [bl8]; omega)]
          rw [pad_getD]; rfl
        have fg : w3.frozen? ⟨g, k, none⟩ = false := ho3.frozenAt k
        have HO3 := Lib.hid ho3; clear ho3
        have HY := Lib.hid hy; clear hy
        have HB := Lib.hid hb; clear hb
        go_wp2
        go_roundw
        case rel =>
          have hst := HO3.out.stored k (.int .u8 (b : Int))
          rw [bv_set, HB.out, bl8_set M N k hlt, ← HB.out] at hst
          refine ⟨k + 1, by omega, by go_num, hst.1, (hkr.trans hk3 (fun _ _ h => h) (fun _ _ h => h.elim)).trans (Kept.setCell (fun k => k = g) _ _ _ rfl) (fun _ _ h => h) (fun _ _ h => h)⟩
        case measure => simp [intOf]; omega
      · obtain rfl : k = N := by omega
        rw [Nat.sub_self, List.replicate_zero, List.append_nil] at ho
        have hkw : Kept (fun _ => False) w wr := (Kept.alloc (fun _ => False) w _).trans hkb (fun _ _ h => h) (fun i hi e => by omega)
        go_wp2_with fail
        go_ret
        refine ⟨_, rfl, ⟨?_, ?_⟩, hkw⟩
        · rw [bl8_length]; exact ho.out
        · intro j hj; simp [Value.ownBlock] at hj; omega

end Go.Proofs.YteaagllpkcpedaaDoor
