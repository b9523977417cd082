/-
  slices.Grow of nil, slices.Concat; arbaclaw04.frames, (arbaclaw04.Damage).apply.
-/
import Derived.Test.YtaoidabelclipaaDoorCrcY
import Derived.Lib.AppendZerosOnto
import Derived.StillTailTactics
namespace Go.Proofs.YtaoidabelclipaaDoor
open Go.RowKit

theorem grow_row (w : World) (n c : Nat) (hc : c ≤ maxLen) (hn : n ≤ c) :
    (w.drew.alloc (.cells (Builtin.zeroCells (Value.int .u8 0).cells n ++ Builtin.zeroCells (Value.int .u8 0).cells (c - n)) 5)).ownsRow w.heap.size 5 1 (.slice (some ⟨w.heap.size, 0, none⟩) 0 c) 0 [] := by
  refine ⟨by simp, Or.inr ⟨w.heap.size, c, _, rfl, Nat.le_refl _, heap_alloc_new w.drew _, Nat.zero_le _, hc, ?_, ?_⟩⟩
  · rw [Array.size_append, size_zeroCells, size_zeroCells, show (Value.int .u8 0).cells.size = 1 from rfl]; omega
  · simp

set_option maxRecDepth 100000 in
set_option maxHeartbeats 800000 in
theorem grow_any (n : Nat) (w : World) (hn : n ≤ 100000) :
    Calls Tryd.prog 92 #[.slice none 0 0, .int .i64 n] w fun e w' => ∃ v', e = .returned v' ∧ Fresh w' w.heap.size v' [] ∧ Kept (fun _ => False) w w' := by
  obtain ⟨i0, hi, hz0, hz1, hz2⟩ := info_parts info_u8c
  by_cases h0 : n = 0
  · subst h0
    go_enter Tryd.func92, Tryd.ntmps92
    go_wp2_with fail
    go_ret
    exact ⟨_, rfl, ⟨World.ownsRow_nil _ _ _ _, by intro k hk; simp [Value.ownBlock] at hk⟩, Kept.refl _ _⟩
  · have h1 : ¬ (n : Int) < 0 := by omega
    have h2 : (0 : Int) < n := by omega
    have hr := Lib.run_append_nil_zeros (P := Tryd.prog) w 22 3 22 5 i0 _ .i64 .i64 Tryd.underlying22 Tryd.underlying3 hi hz0 n (by omega) (by omega) (by omega) (by rw [hz2]; omega)
    have hge := grownCap_ge w n 0 5
    have hle := grownCap_le_maxLen w n 0 5 (by unfold maxLen; omega)
    have hrow := grow_row w n (grownCap w n 0 5) hle hge
    have hk : Kept (fun _ => False) w (w.drew.alloc (.cells (Builtin.zeroCells (Value.int .u8 0).cells n ++ Builtin.zeroCells (Value.int .u8 0).cells (grownCap w n 0 5 - n)) 5)) := (Kept.refl (fun _ => False) w).drew.then (Kept.alloc _ _ _)
    generalize w.drew.alloc (.cells (Builtin.zeroCells (Value.int .u8 0).cells n ++ Builtin.zeroCells (Value.int .u8 0).cells (grownCap w n 0 5 - n)) 5) = w1 at hr hrow hk
    generalize grownCap w n 0 5 = gc at *
    have HR := Lib.hid hr; have HROW := Lib.hid hrow; have HK := Lib.hid hk
    clear hr hrow hk
    go_enter Tryd.func92, Tryd.ntmps92
    go_wp2_with (at_builtin; refine wpList_append_run (by rfl) _ _ _ _ rfl _ _ rfl rfl HR.out ?_)
    go_ret
    exact ⟨_, rfl, ⟨HROW.out, fun k hk => (HROW.out.lt k hk).1⟩, HK.out⟩

/-- A list of slices of bytes in memory, each readable. -/
structure RB (w : World) (g off N : Nat) (f : Nat → Value) (F : Nat → List Nat) : Prop where
  lt : g < w.heap.size
  cell : ∀ i, i < N → w.cell? ⟨g, off + i, none⟩ = some (f i)
  reads : ∀ i, i < N → Reads w (f i) (F i)
theorem RB.kept {a b : World} {g off N : Nat} {f : Nat → Value} {F : Nat → List Nat} (h : RB a g off N f F) (hk : Kept (fun _ => False) a b) : RB b g off N f F :=
  ⟨Nat.lt_of_lt_of_le h.lt hk.size, fun i hi => (hk.cell (p := ⟨g, off + i, none⟩) h.lt (fun h => h)).trans (h.cell i hi), fun i hi => (h.reads i hi).kept hk (fun _ _ h => h)⟩

def catN (F : Nat → List Nat) : Nat → List Nat
  | 0 => []
  | k + 1 => catN F k ++ F k
theorem catN_len {F : Nat → List Nat} {N M : Nat} (h : ∀ i, i < N → (F i).length ≤ M) : ∀ k, k ≤ N → (catN F k).length ≤ M * k
  | 0, _ => by simp [catN]
  | k + 1, hk => by
    have h1 := catN_len h k (by omega)
    have h2 := h k (by omega)
    rw [catN, List.length_append, Nat.mul_add, Nat.mul_one]; omega
theorem catN_byte {F : Nat → List Nat} {N : Nat} (h : ∀ i, i < N → ∀ x ∈ F i, x < 256) : ∀ k, k ≤ N → ∀ x ∈ catN F k, x < 256
  | 0, _, x, hx => by simp [catN] at hx
  | k + 1, hk, x, hx => by
    rw [catN] at hx
    rcases List.mem_append.1 hx with hx | hx
    · exact catN_byte h k (by omega) x hx
    · exact h k (by omega) x hx

/-- What Concat's second loop keeps. -/
structure CatInv (w wr : World) (v : Value) (xs : List Nat) : Prop where
  row : Fresh wr w.heap.size v xs
  kept : Kept (fun _ => False) w wr

set_option maxRecDepth 100000 in
set_option maxHeartbeats 1600000 in
theorem concat_any (g off N c : Nat) (f : Nat → Value) (F : Nat → List Nat) (w : World) (h : RB w g off N f F) (hN : N ≤ 8) (hl : ∀ i, i < N → (F i).length ≤ 10000) (hc : N ≤ c) :
    Calls Tryd.prog 70 #[.slice (some ⟨g, off, none⟩) N c] w fun e w' => ∃ v', e = .returned v' ∧ Fresh w' w.heap.size v' (catN F N) ∧ Kept (fun _ => False) w w' := by
  have hlen := fun k hk => catN_len hl k hk
  have H := Lib.hid h; have HL := Lib.hid hl; have HLEN := Lib.hid hlen
  clear h hl hlen
  go_enter Tryd.func70, Tryd.ntmps70
  go_wp2_with fail
  go_loop [3, 11] (fun sv iv => ∃ k : Nat, k ≤ N ∧ iv = .int .i64 k ∧ sv = .int .i64 ((catN F k).length : Nat)) (fun _ iv => N - (intOf iv).toNat)
  case atStart => exact ⟨0, by omega, rfl, rfl⟩
  case round =>
    obtain ⟨k, hk, rfl, rfl⟩ := hrel
    have hkl := HLEN.out k hk
    by_cases hlt : k < N
    · have hl1 : (k : Int) < (N : Int) := by omega
      have hl0 : (0 : Int) ≤ (k : Int) := by omega
      have hcell := H.out.cell k hlt
      obtain ⟨a, cc, hf⟩ := (H.out.reads k hlt).form
      have hfl := HL.out k hlt
      have hs : (catN F (k + 1)).length = (catN F k).length + (F k).length := by rw [catN, List.length_append]
      rw [hf] at hcell
      have HS := Lib.hid hs
      clear hs hf
      generalize (catN F k).length = s at *
      generalize (F k).length = m at *
      have hneg : ¬ ((s : Int) + m) < 0 := by omega
      go_wp2_with fail
      go_round
      case rel => exact ⟨k + 1, by omega, by go_num, by rw [HS.out]; go_num⟩
      case measure => simp [intOf]; omega
    · obtain rfl : k = N := by omega
      have hkl2 : (catN F k).length ≤ 100000 := by omega
      generalize (catN F k).length = s at *
      go_wp2_with fail
      refine (grow_any s w hkl2).mono ?_
      rintro e w1 ⟨v1, rfl, hf1, hk1⟩
      have HI := Lib.hid (CatInv.mk (w := w) (xs := catN F 0) hf1 hk1)
      clear hf1 hk1
      go_wp2_with fail
      go_loopw [6, 27] (fun sv iv wr => ∃ i : Nat, i ≤ k ∧ iv = .int .i64 i ∧ Hid (CatInv w wr sv (catN F i))) (fun _ iv _ => k - (intOf iv).toNat)
      case atStart => exact ⟨0, by omega, rfl, HI⟩
      case round =>
        obtain ⟨i, hik, rfl, hinv⟩ := hrel
        by_cases hlt2 : i < k
        · have hl1 : (i : Int) < (k : Int) := by omega
          have hl0 : (0 : Int) ≤ (i : Int) := by omega
          have hb := H.out.kept hinv.out.kept
          have hcell := hb.cell i hlt2
          have hread := hb.reads i hlt2
          obtain ⟨a3, c3, w3, r1, f3, k3⟩ := append_reads_run hinv.out.row hread (by have := HLEN.out i (by omega); have := HL.out i hlt2; omega) hinv.out.kept.size
          have hk3 : Kept (fun _ => False) w w3 := hinv.out.kept.trans k3 (fun _ _ h => h) (fun j hj e => by have := hinv.out.row.block j e; omega)
          have HI3 : Hid (CatInv w w3 _ (catN F (i + 1))) := ⟨f3, hk3⟩
          have R1 := Lib.hid r1
          clear hb hread r1 f3 k3 hk3 hinv HI
          generalize f i = fi at hcell R1
          generalize (catN F i ++ F i).length = q at R1 HI3
          go_wp2_with (at_builtin; refine wpList_append_run (by rfl) _ _ _ _ rfl _ _ rfl rfl R1.out ?_)
          go_roundw
          case rel => exact ⟨i + 1, by omega, by go_num, HI3⟩
          case measure => simp [intOf]; omega
        · obtain rfl : i = k := by omega
          have HF := Lib.hid hinv.out.row; have HK := Lib.hid hinv.out.kept
          go_wp2_with fail
          go_ret
          exact ⟨_, rfl, HF.out, HK.out⟩

set_option maxRecDepth 100000 in
set_option maxHeartbeats 1600000 in
theorem frames_any (v : Value) (f : Nat → Value) (F : Nat → List Nat) (N B : Nat) (w : World) (hl : LB w v f F N B) (hB : B ≤ w.heap.size) (hb : ∀ a n c, v = .slice a n c → c ≤ 9223372036854775807) :
    Calls Tryd.prog 40 #[v] w fun e w' => ∃ v' zs, e = .returned v' ∧ Fresh w' w.heap.size v' zs ∧ (∀ x ∈ zs, x < 256) ∧ zs.length ≤ 2464 ∧ Kept (fun _ => False) w w' := by
  obtain ⟨a0, c0, rfl, hN⟩ := hl.form
  have hc0 := hb _ _ _ rfl
  obtain ⟨K, hK⟩ : ∃ K, K = min N 8 := ⟨_, rfl⟩
  have hmin : min (N : Int) 8 = (K : Int) := by omega
  have hK0 : (0 : Int) ≤ (K : Int) := by omega
  have hK1 : (K : Int) ≤ (N : Int) := by omega
  have hK2 : (K : Int) ≤ (c0 : Int) := by omega
  have hK3 : K ≤ c0 := by omega
  have hK4 : K ≤ N := by omega
  have hK5 : K ≤ 8 := by omega
  have hlk := hl.cut K hK4
  have hby : ∀ i, i < K → ∀ x ∈ F i, x < 256 := fun i hi => by
    obtain ⟨_, _, _, _, _, _, h⟩ := hl.at (k := i) (by omega)
    exact h
  have HLK := Lib.hid hlk; have HBY := Lib.hid hby
  clear hl hb hby hK hlk
  have HI0 : Hid (CatInv w w (.slice none 0 0) (frs (psN F 0))) := ⟨⟨World.ownsRow_nil _ _ _ _, by intro k hk; simp [Value.ownBlock] at hk⟩, Kept.refl _ _⟩
  go_enter Tryd.func40, Tryd.ntmps40
  go_wp2_with fail
  go_loopw [3, 12] (fun sv iv wr => ∃ i : Nat, i ≤ K ∧ iv = .int .i64 i ∧ Hid (CatInv w wr sv (frs (psN F i)))) (fun _ iv _ => K - (intOf iv).toNat)
  case atStart => exact ⟨0, by omega, rfl, HI0⟩
  case round =>
    obtain ⟨k, hk, rfl, hinv⟩ := hrel
    by_cases hlt : k < K
    · have hl1 : (k : Int) < (K : Int) := by omega
      have hl0 : (0 : Int) ≤ (k : Int) := by omega
      obtain ⟨g, off, ha0, hg, hcell, hloose, hbyk⟩ := (HLK.out.kept hinv.out.kept hB).at (k := k) hlt
      subst ha0
      have HLO := Lib.hid hloose
      generalize f k = fk at hcell HLO
      have hq : ∀ x ∈ (F k).take 300, x < 256 := fun x hx => hbyk x (List.mem_of_mem_take hx)
      have hql : ((F k).take 300).length ≤ 300 := by simp; omega
      have HQ := Lib.hid hq
      clear hloose hbyk hq
      go_wp2_with fail
      refine (few_loose _ (F k) 300 B _ HLO.out (by omega)).mono ?_
      rintro e w1 ⟨p1, rfl, hf1, hk1⟩
      have HF1 := Lib.hid hf1.reads
      go_wp2_with fail
      refine (rframe_any _ _ w1 HF1.out HQ.out (by omega)).mono ?_
      rintro e w2 ⟨v2, rfl, hf2, hk2⟩
      have hk12 := hk1.then hk2
      have hkw2 := hinv.out.kept.then hk12
      have hrow2 : Fresh w2 w.heap.size _ _ := ⟨hk12.owns hinv.out.row.own (fun _ _ h => h), hinv.out.row.block⟩
      obtain ⟨a3, c3, w3, r1, f3, k3⟩ := append_reads_run hrow2 hf2.reads (by have := frs_psN_len F k; have := frameS_length ((F k).take 300); omega) hkw2.size
      have hk3 : Kept (fun _ => False) w w3 := hkw2.trans k3 (fun _ _ h => h) (fun j hj e => by have := hrow2.block j e; omega)
      rw [← frs_snoc, ← psN_succ] at r1 f3
      have HI3 : Hid (CatInv w w3 _ (frs (psN F (k + 1)))) := ⟨f3, hk3⟩
      have R1 := Lib.hid r1
      clear hf1 hk1 hf2 hk2 hk12 hkw2 hrow2 r1 f3 k3 hk3 hinv HI0 HF1
      generalize (frs (psN F (k + 1))).length = q at R1 HI3
      go_wp2_with (at_builtin; refine wpList_append_run (by rfl) _ _ _ _ rfl _ _ rfl rfl R1.out ?_)
      go_roundw
      case rel => exact ⟨k + 1, by omega, by go_num, HI3⟩
      case measure => simp [intOf]; omega
    · obtain rfl : k = K := by omega
      have HF := Lib.hid hinv.out.row; have HK := Lib.hid hinv.out.kept
      go_wp2_with fail
      go_ret
      exact ⟨_, _, rfl, HF.out, frs_byte (psN_byte HBY.out), by have := frs_psN_len F k; omega, HK.out⟩
end Go.Proofs.YtaoidabelclipaaDoor
