/-
  Bytes in memory for the CRC proofs: slices.Clone, slices.Equal, arbaclaw04.few; crc.field, crc.appendField.
-/
import Derived.Test.YtncieckanngodaaDoorCrcW
import Derived.Test.YtncieckanngodaaDoorMake
import Derived.Maps.AppendAt
import Derived.Laws.AppendOwnNone
import Derived.Deep.AppendLies
namespace Go.Proofs.YtncieckanngodaaDoor
open Go.RowKit

theorem bv_at8 (xs : List Nat) (i : Nat) (h : i < xs.length) : (bv xs)[i]? = some (.int .u8 (xs.getD i 0 : Nat)) := by simp [bv, List.getD, h]
theorem take_eq_succ8 {xs ys : List Nat} {k : Nat} (h : xs.take k = ys.take k) (hx : k < xs.length) (hy : k < ys.length) (he : xs.getD k 0 = ys.getD k 0) : xs.take (k + 1) = ys.take (k + 1) := by
  rw [take_snoc xs k hx, take_snoc ys k hy, h, he]

theorem info_u8c : (Tryd.prog.info? 5).map (fun i => (i.zero, i.size, i.bytes)) = some (some (.int .u8 0), 1, 1) := by kernel_rfl

theorem Reads.takeV {w : World} {xs : List Nat} {a : Option Addr} {c : Nat} (n : Nat) (h : Reads w (.slice a xs.length c) xs) (hn : n ≤ xs.length) : Reads w (.slice a n c) (xs.take n) := by
  rcases h with ⟨h, rfl⟩ | ⟨g, off, cap, h, h1, h2, h3, h4⟩
  · cases h
    have : n = 0 := by simpa using hn
    subst this
    exact Or.inl ⟨rfl, rfl⟩
  · cases h
    exact Reads.take n (Or.inr ⟨g, off, c, rfl, h1, h2, h3, h4⟩) hn

set_option maxRecDepth 100000 in
set_option maxHeartbeats 1600000 in
theorem equalb_any (w : World) (v u : Value) (xs ys : List Nat) (hv : Reads w v xs) (hu : Reads w u ys) :
    Calls Tryd.prog 47 #[v, u] w fun e w' => e = .returned (.bool (decide (xs = ys))) ∧ Kept (fun _ => False) w w' := by
  obtain ⟨a, c, rfl⟩ := hv.form
  obtain ⟨a', c', rfl⟩ := hu.form
  have hm := hv.le
  have hm' := hu.le
  have ltv := hv.lt
  have ltu := hu.lt
  have HX := Lib.hid hv; have HY := Lib.hid hu
  clear hv hu
  have hm1 : xs.length ≤ 9223372036854775807 := by unfold maxLen at hm; omega
  obtain ⟨n, hn⟩ : ∃ n, n = xs.length := ⟨_, rfl⟩
  obtain ⟨m, hmm⟩ : ∃ m, m = ys.length := ⟨_, rfl⟩
  rw [← hn, ← hmm]
  by_cases hne : n = m
  · have hyl : ys.length = n := by omega
    subst hne
    clear hmm
    go_enter Tryd.func47, Tryd.ntmps47
    rw [← hn] at hm1
    have HN := Lib.hid hn; have HYL := Lib.hid hyl; clear hn hyl hm hm'
    go_wp2_with fail
    go_loopw [13] (fun iv wr => ∃ k : Nat, k ≤ n ∧ iv = .int .i64 k ∧ Hid (xs.take k = ys.take k) ∧ Kept (fun _ => False) w wr) (fun iv _ => n - (intOf iv).toNat)
    case atStart => exact ⟨0, Nat.zero_le _, rfl, rfl, Kept.refl _ _⟩
    case round =>
      obtain ⟨k, hk, rfl, ht, hkw⟩ := hrel
      by_cases hlt : k < n
      · have hlt' : (k : Int) < (n : Int) := by omega
        have hk0 : (0 : Int) ≤ (k : Int) := by omega
        obtain ⟨g, off, rfl, _, hc⟩ := HX.out.at (k := k) (by rw [← HN.out]; exact hlt)
        obtain ⟨g', off', rfl, _, hc'⟩ := HY.out.at (k := k) (by rw [HYL.out]; exact hlt)
        have hg := ltv g rfl
        have hg' := ltu g' rfl
        obtain ⟨x, hx⟩ : ∃ x, x = xs.getD k 0 := ⟨_, rfl⟩
        obtain ⟨y, hy⟩ : ∃ y, y = ys.getD k 0 := ⟨_, rfl⟩
        rw [← hx] at hc
        rw [← hy] at hc'
        have c1 := (hkw.cell (p := ⟨g, off + k, none⟩) hg (fun h => h)).trans hc
        have c2 := (hkw.cell (p := ⟨g', off' + k, none⟩) hg' (fun h => h)).trans hc'
        have HX1 := Lib.hid hx; have HY1 := Lib.hid hy; clear hx hy hc hc'
        by_cases hxy : x = y
        · subst hxy
          go_wp2_with fail
          go_quiet (fail)
          go_wp2_with fail
          go_roundw
          case rel => exact ⟨k + 1, by omega, by go_num, take_eq_succ8 ht.out (by rw [← HN.out]; exact hlt) (by rw [HYL.out]; exact hlt) (by rw [← HX1.out, ← HY1.out]), hkw.drewN _⟩
          case measure => simp [intOf]; omega
        · have hb : ((x : Int) == (y : Int)) = false := by simp; omega
          go_wp2_with fail
          go_quiet (fail)
          go_wp2_with fail
          go_ret
          refine ⟨?_, hkw.drewN _⟩
          have : decide (xs = ys) = false := by
            simp only [decide_eq_false_iff_not]
            intro e
            exact hxy (by rw [HX1.out, HY1.out, e])
          rw [this]; rfl
      · obtain rfl : k = n := by omega
        go_wp2_with fail
        go_ret
        refine ⟨?_, hkw⟩
        have h := ht.out
        rw [List.take_of_length_le (by rw [← HN.out]; exact Nat.le_refl _), List.take_of_length_le (by rw [HYL.out]; exact Nat.le_refl _)] at h
        rw [show decide (xs = ys) = true by simpa using h]; rfl
  · have hd : decide (xs = ys) = false := by
      simp only [decide_eq_false_iff_not]
      intro e
      exact hne (by rw [hn, hmm, e])
    rw [hd]
    have hb : ((n : Int) == (m : Int)) = false := by simp; omega
    clear hd hn hmm hm1 hm hm'
    go_enter Tryd.func47, Tryd.ntmps47
    go_wp2_with fail
    go_ret
    exact ⟨rfl, Kept.refl _ _⟩

theorem or32 (a b y : Nat) (ha : a < 2 ^ 32) (hb : b < 2 ^ 32) (h : y = a ||| b) : bits .or .u32 (a : Int) (b : Int) = (y : Int) := by
  rw [u32_or_nat _ _ (by omega) (by omega), h]

theorem getD8 {xs : List Nat} (h : ∀ x ∈ xs, x < 256) (i : Nat) : xs.getD i 0 < 256 := getD_byte h i

set_option maxRecDepth 100000 in
set_option maxHeartbeats 800000 in
theorem field_any (v : Value) (xs : List Nat) (w : World) (h : Reads w v xs) (hb : ∀ x ∈ xs, x < 256) (hl : 4 ≤ xs.length) :
    Calls Tryd.prog 69 #[v] w fun e w' => e = .returned (.int .u32 (de4 xs : Nat)) ∧ w = w' := by
  obtain ⟨a, c, rfl⟩ := h.form
  have hm := h.le
  unfold maxLen at hm
  obtain ⟨g, off, rfl, _, hc0⟩ := h.at (k := 0) (by omega)
  have hc := fun (k : Nat) (hk : k < 4) => h.at (k := k) (by omega)
  obtain ⟨_, _, e1, _, hc1⟩ := hc 1 (by omega); cases e1
  obtain ⟨_, _, e2, _, hc2⟩ := hc 2 (by omega); cases e2
  obtain ⟨_, _, e3, _, hc3⟩ := hc 3 (by omega); cases e3
  clear hc h
  rw [Nat.add_zero] at hc0
  have b0 := getD8 hb 0; have b1 := getD8 hb 1; have b2 := getD8 hb 2; have b3 := getD8 hb 3
  unfold de4
  generalize xs.getD 0 0 = x0 at *
  generalize xs.getD 1 0 = x1 at *
  generalize xs.getD 2 0 = x2 at *
  generalize xs.getD 3 0 = x3 at *
  clear hb
  obtain ⟨y1, hy1⟩ : ∃ y, y = x0 + 256 * x1 := ⟨_, rfl⟩
  obtain ⟨y2, hy2⟩ : ∃ y, y = y1 + 65536 * x2 := ⟨_, rfl⟩
  obtain ⟨y3, hy3⟩ : ∃ y, y = y2 + 16777216 * x3 := ⟨_, rfl⟩
  have o0 : bits .or .u32 0 (x0 : Int) = (x0 : Int) := or32 0 x0 x0 (by omega) (by omega) (by rw [Nat.zero_or])
  have o1 := or32 x0 (x1 * 256) y1 (by omega) (by omega) (by rw [Nat.or_comm, nat_join 8 _ _ (by omega) (by omega), hy1]; omega)
  have o2 := or32 y1 (x2 * 65536) y2 (by omega) (by omega) (by rw [Nat.or_comm, nat_join 16 _ _ (by omega) (by omega), hy2]; omega)
  have o3 := or32 y2 (x3 * 16777216) y3 (by omega) (by omega) (by rw [Nat.or_comm, nat_join 24 _ _ (by omega) (by omega), hy3]; omega)
  have hfin : x0 + 256 * x1 + 65536 * x2 + 16777216 * x3 = y3 := by omega
  rw [hfin]
  have w0 : IntKind.u32.wrap (x0 : Int) = (x0 : Int) := IntWalk.u32_in _ (by omega)
  have w1 : IntKind.u32.wrap (x1 : Int) = (x1 : Int) := IntWalk.u32_in _ (by omega)
  have w2 : IntKind.u32.wrap (x2 : Int) = (x2 : Int) := IntWalk.u32_in _ (by omega)
  have w3 : IntKind.u32.wrap (x3 : Int) = (x3 : Int) := IntWalk.u32_in _ (by omega)
  have s1 : IntKind.u32.wrap ((x1 : Int) * 256) = (x1 : Int) * 256 := IntWalk.u32_in _ (by omega)
  have s2 : IntKind.u32.wrap ((x2 : Int) * 65536) = (x2 : Int) * 65536 := IntWalk.u32_in _ (by omega)
  have s3 : IntKind.u32.wrap ((x3 : Int) * 16777216) = (x3 : Int) * 16777216 := IntWalk.u32_in _ (by omega)
  rw [show ((x1 * 256 : Nat) : Int) = (x1 : Int) * 256 by omega] at o1
  rw [show ((x2 * 65536 : Nat) : Int) = (x2 : Int) * 65536 by omega] at o2
  rw [show ((x3 * 16777216 : Nat) : Int) = (x3 : Int) * 16777216 by omega] at o3
  clear hy1 hy2 hy3 hfin
  have hlen : (4 : Int) ≤ xs.length := by omega
  have l0 : (0 : Int) < xs.length := by omega
  have l1 : (1 : Int) < xs.length := by omega
  have l2 : (2 : Int) < xs.length := by omega
  have l3 : (3 : Int) < xs.length := by omega
  generalize xs.length = n at *
  go_enter Tryd.func69, Tryd.ntmps69
  go_wp2_with fail
  refine wp_loop_rounds 5 ?_
  rw [rounds_succ]
  go_wp2_with fail
  rw [rounds_succ]
  go_wp2_with fail
  rw [rounds_succ]
  go_wp2_with fail
  rw [rounds_succ]
  go_wp2_with fail
  rw [rounds_succ]
  go_wp2_with fail
  go_ret
  exact ⟨rfl, rfl⟩

/-- What a step on a row of one's own leaves: all but the row is as it was; a new row is a new block. -/
structure BStep (w w' : World) (v v' : Value) : Prop where
  kept : Kept (blk v) w w'
  row : v'.ownBlock = v.ownBlock ∨ ∀ k, v'.ownBlock = some k → w.heap.size ≤ k

theorem BStep.refl (w : World) (v : Value) : BStep w w v v := ⟨Kept.refl _ _, Or.inl rfl⟩
theorem BStep.trans {a b c : World} {u v x : Value} (h : BStep a b u v) (k : BStep b c v x) : BStep a c u x := by
  refine ⟨h.kept.trans k.kept (fun i _ h => h) (fun i hi hs => ?_), ?_⟩
  · rcases h.row with hr | hr
    · unfold blk at hs ⊢; rw [← hr]; exact hs
    · have := hr i hs; omega
  · rcases k.row with kr | kr
    · rw [kr]; exact h.row
    · exact Or.inr fun i hi => Nat.le_trans h.kept.size (kr i hi)

theorem le4_take (n k : Nat) (hk : k < 4) : (le4 n).take (k + 1) = (le4 n).take k ++ [n / 256 ^ k % 256] := by
  match k, hk with
  | 0, _ => simp [le4]
  | 1, _ => simp [le4]
  | 2, _ => simp [le4]
  | 3, _ => simp [le4]

set_option maxRecDepth 100000 in
set_option maxHeartbeats 800000 in
theorem appendField_any (v : Value) (xs : List Nat) (n : Nat) (w : World) (B : Nat) (h : Fresh w B v xs) (hn : n < 2 ^ 32) (hl : xs.length ≤ 100000) (hB : B ≤ w.heap.size) :
    Calls Tryd.prog 55 #[v, .int .u32 n] w fun e w' => ∃ v', e = .returned v' ∧ Fresh w' B v' (xs ++ le4 n) ∧ BStep w w' v v' := by
  obtain ⟨i0, hi, hz0, hz1, hz2⟩ := info_parts info_u8c
  have HN := Lib.hid hn; clear hn
  have HH := Lib.hid h; clear h
  go_enter Tryd.func55, Tryd.ntmps55
  go_wp2_with fail
  go_loopw [0, 1, 5] (fun vv nn i wr => ∃ k : Nat, k ≤ 4 ∧ i = .int .i64 k ∧ nn = .int .u32 (n / 256 ^ k : Nat) ∧ Fresh wr B vv (xs ++ (le4 n).take k) ∧ BStep w wr v vv) (fun _ _ i _ => 4 - (intOf i).toNat)
  case atStart =>
    refine ⟨0, Nat.zero_le _, rfl, by simp, ?_, BStep.refl _ _⟩
    rw [List.take_zero, List.append_nil]; exact HH.out
  case round =>
    obtain ⟨k, hk, rfl, rfl, hf, hs⟩ := hrel
    have hsz := hs.kept.size
    have hbase : B ≤ wr.heap.size := by omega
    have hll : (xs ++ (le4 n).take k).length ≤ 100004 := by simp [le4]; omega
    by_cases hlt : k < 4
    · have ht := le4_take n k hlt
      have hd : n / 256 ^ (k + 1) = n / 256 ^ k / 256 := by rw [Nat.pow_succ, Nat.div_div_eq_div_mul]
      have HT := Lib.hid ht; have HD := Lib.hid hd; clear ht hd
      have hml : n / 256 ^ k < 2 ^ 32 := Nat.lt_of_le_of_lt (Nat.div_le_self _ _) HN.out
      generalize n / 256 ^ k = m at HT HD hml ⊢
      obtain ⟨c, hc⟩ : ∃ c, c = m % 256 := ⟨_, rfl⟩
      have hw1 : (m : Int) % 256 = (c : Int) := by omega
      rw [← hc] at HT
      clear hc
      have hm1 : (xs ++ (le4 n).take k).length + 1 ≤ maxLen := by unfold maxLen; omega
      have hm2 : ((xs ++ (le4 n).take k).length + 1) * 1 ≤ 140737488355328 := by omega
      have hlt' : (k : Int) < 4 := by omega
      have HO := Lib.hid hf.own
      have hfb := Lib.hid hf.block
      clear hf
      generalize hys : xs ++ (le4 n).take k = ys at HT hm1 hm2 HO hll
      have HYS := Lib.hid hys; clear hys
      go_wp2_with (at_builtin; refine wpList_append_lies _ rfl _ _ _ rfl B 5 i0 _ 1 1 Tryd.underlying26 hi hz0 hz1 hz2 rfl (by omega) u0 _ _ rfl (HO.out.alloc _) ⟨wr.heap.size, 0, none⟩ 1 1 [.int .u8 c] rfl rfl (World.news_of_block (cs := #[.int .u8 c]) (t := 5) (fr := (0, 0)) (heap_alloc_new wr _)) (by simp [Value.oneCell']) (by omega) hm1 hm2 (by simp; omega) (wr.heap.size + 1) (by simp) ?_)
      intro gg cap w1 hown1 hgrow hat hgl
      have hst : BStep wr w1 u0 (.slice (some ⟨gg, 0, none⟩) (ys.length + 1) cap) := ⟨(Kept.alloc (fun _ => False) wr _).trans (Kept.ofGrown (S := blk u0) hgrow fun k e => e) (fun _ _ h => h.elim) (fun _ _ h => h), by
        rcases hat with e | e
        · exact Or.inl (by rw [e]; rfl)
        · exact Or.inr fun k hk => by simp [Value.ownBlock] at hk; omega⟩
      have hown2 : Fresh w1 B (.slice (some ⟨gg, 0, none⟩) (ys.length + 1) cap) (ys ++ [c]) := ⟨by rw [List.length_append, bv_append]; exact hown1, fun k hk => (hown1.lt k hk).1⟩
      have HO2 := Lib.hid hown2; have HST := Lib.hid (hs.trans hst)
      clear hown1 hown2 hst hgrow hat
      go_wp2
      go_roundw
      case rel =>
        refine ⟨k + 1, by omega, by go_num, by rw [HD.out]; go_num, ?_, HST.out⟩
        rw [HT.out, ← List.append_assoc, HYS.out]; exact HO2.out
      case measure => simp [intOf]; omega
    · obtain rfl : k = 4 := by omega
      rw [show (le4 n).take 4 = le4 n from rfl] at hf
      have HF := Lib.hid hf; have HS := Lib.hid hs; clear hf hs
      go_wp2_with fail
      go_ret
      exact ⟨_, rfl, HF.out, HS.out⟩
end Go.Proofs.YtncieckanngodaaDoor
