/-
  arbac/keccak: (ID).Text.
-/
import Derived.Test.YtdmnanocmpkhjaaDoorKecR
import Derived.Test.YtdmnanocmpkhjaaDoorKecI
import Derived.Test.YtdmnanocmpkhjaaDoorMake
import Derived.Test.YtdmnanocmpkhjaaDoorCrcB
namespace Go.Proofs.YtdmnanocmpkhjaaDoor
open Go.RowKit

def hx (n : Nat) : Nat := if n < 10 then 48 + n else 87 + n
def texL (d : List Nat) : List Nat := d.flatMap fun b => [hx (b / 16), hx (b % 16)]
theorem texL_succ (d : List Nat) (k : Nat) (hk : k < d.length) : texL (d.take (k + 1)) = texL (d.take k) ++ [hx (d.getD k 0 / 16), hx (d.getD k 0 % 16)] := by
  unfold texL
  rw [List.take_succ_eq_append_getElem hk, List.flatMap_append]
  simp [List.getD, hk]
theorem texL_length (d : List Nat) : (texL d).length = 2 * d.length := by
  unfold texL
  induction d with
  | nil => rfl
  | cons x d ih => rw [List.flatMap_cons, List.length_append, ih]; simp; omega

theorem digit_at (h : Nat) (hl : h < 16) : ∀ p : h < (ByteArray.mk #[48, 49, 50, 51, 52, 53, 54, 55, 56, 57, 97, 98, 99, 100, 101, 102]).size, ((ByteArray.mk #[48, 49, 50, 51, 52, 53, 54, 55, 56, 57, 97, 98, 99, 100, 101, 102])[h]'p).toNat = hx h := by
  have e : h = 0 ∨ h = 1 ∨ h = 2 ∨ h = 3 ∨ h = 4 ∨ h = 5 ∨ h = 6 ∨ h = 7 ∨ h = 8 ∨ h = 9 ∨ h = 10 ∨ h = 11 ∨ h = 12 ∨ h = 13 ∨ h = 14 ∨ h = 15 := by omega
  rcases e with rfl | rfl | rfl | rfl | rfl | rfl | rfl | rfl | rfl | rfl | rfl | rfl | rfl | rfl | rfl | rfl <;> exact fun _ => rfl

set_option maxRecDepth 100000 in
set_option maxHeartbeats 1600000 in
theorem text_any (w : World) (d : List Nat) (hd : d.length = 32) (hb : ∀ x ∈ d, x < 256) :
    Calls Tryd.prog 8 #[.agg (arr8 d).toArray] w fun e w' => e = .returned (.string (strOfNums ((texL d).map fun n : Nat => (n : Int)))) ∧ Kept (fun _ => False) w w' := by
  obtain ⟨i0, hi, hz0, hz1, hz2⟩ := info_parts info_u8c
  have HB := Lib.hid hb
  have hsz : (Tryd.prog.info? 27).map (·.size) = some (arr8 d).length := by rw [arr8_length, hd]; exact size32
  have hcell : ∀ (W : World), Kept (fun _ => False) (w.alloc (.cells (arr8 d).toArray 27)) W → ∀ j v, (arr8 d)[j]? = some v → W.cell? ⟨w.heap.size, 0 + j, none⟩ = some v := fun W hk =>
    ((blk_new w (arr8 d).toArray 27 d rfl).kept hk (by simp) (fun h => h)).get
  have hidx : ∀ k, k < 32 → (arr8 d).toArray[k]? = some (.int .u8 (d.getD k 0 : Nat)) := fun k hk => by
    have := arr8_get d k (by omega)
    simpa using this
  obtain ⟨cs, hcs⟩ : ∃ cs, cs = arr8 d := ⟨_, rfl⟩
  rw [← hcs] at hsz hcell hidx ⊢
  have HSZ := Lib.hid hsz; have HCELL := Lib.hid hcell; have HIDX := Lib.hid hidx; have HCS := Lib.hid hcs
  clear hsz hcell hidx hcs hb
  have hmk := fun (W : World) => run_makeSlice (P := Tryd.prog) W 26 5 i0 (.int .u8 0) Tryd.underlying26 hi hz0 .i64 .i64 0 64 (by omega) (by omega) (by rw [hz1]; decide) (by rw [hz2]; decide) (by decide)
  go_enter Tryd.func8, Tryd.ntmps8
  go_wp2_with (first | (refine wpList_load_at rfl 27 _ rfl w.heap.size 0 rfl cs _ (HCELL.out _ (Kept.alloc _ _ _)) Tryd.underlying27 rfl HSZ.out ?_))
  clear hmk
  go_loopw [3, 5, 8] (fun tv _ i W => ∃ k : Nat, k ≤ 32 ∧ i = .int .i64 k ∧ Fresh W w.heap.size tv (texL (d.take k)) ∧ Kept (fun _ => False) w W) (fun _ _ i _ => 32 - (intOf i).toNat)
  case atStart =>
    refine ⟨0, by omega, rfl, ⟨⟨rfl, Or.inr ⟨w.heap.size + 1, 64, madeCells #[Value.int .u8 0] 64, rfl, by omega, ?_, by simp [texL], by decide, by simp [madeCells], rfl⟩⟩, fun k hk => by simp [Value.ownBlock] at hk; omega⟩, (Kept.alloc _ _ _).then (Kept.alloc _ _ _)⟩
    have := heap_alloc_new (w.alloc (.cells cs.toArray 27)) (.cells (madeCells #[Value.int .u8 0] 64) 5)
    rwa [show (w.alloc (.cells cs.toArray 27)).heap.size = w.heap.size + 1 by simp] at this
  case round =>
    obtain ⟨k, hk, rfl, hf, hkw⟩ := hrel
    by_cases hlt : k < 32
    · have ht := texL_succ d k (by omega)
      have hix := HIDX.out k hlt
      have hb256 := getD_lt256 HB.out k
      generalize d.getD k 0 = b at ht hix hb256
      obtain ⟨h, hh⟩ : ∃ h, h = b / 16 := ⟨_, rfl⟩
      obtain ⟨l, hl⟩ : ∃ l, l = b % 16 := ⟨_, rfl⟩
      rw [← hh, ← hl] at ht
      have h16 : h < 16 := by omega
      have l16 : l < 16 := by omega
      have e1 : (b : Int) / 16 = (h : Int) := by omega
      have e2 : (b : Int) / 2 ^ 4 = (h : Int) := by omega
      have e3 : bits .and .u8 (b : Int) 15 = (l : Int) := by
        rw [show (15 : Int) = ((15 : Nat) : Int) from rfl, u8_and_nat _ _ (by omega) (by omega), hl]
        congr 1
        exact Nat.and_two_pow_sub_one_eq_mod b 4
      have p1 : (0 : Int) ≤ h := by omega
      have p2 : (h : Int) < 16 := by omega
      have p3 : (0 : Int) ≤ l := by omega
      have p4 : (l : Int) < 16 := by omega
      have d1 := digit_at h h16
      have d2 := digit_at l l16
      obtain ⟨A, hA⟩ : ∃ A, A = hx h := ⟨_, rfl⟩
      obtain ⟨C, hC⟩ : ∃ C, C = hx l := ⟨_, rfl⟩
      rw [← hA] at d1
      rw [← hC] at d2
      rw [← hA, ← hC] at ht
      clear hA hC
      have m0 : (k : Int) < 32 := by omega
      have hll : (texL (d.take k)).length ≤ 64 := by rw [texL_length]; simp; omega
      have hm1 : (texL (d.take k)).length + 2 ≤ maxLen := by unfold maxLen; omega
      have hm2 : ((texL (d.take k)).length + 2) * 1 ≤ 140737488355328 := by omega
      have HO := Lib.hid hf.own
      have HFB := Lib.hid hf.block
      have hsz := hkw.size
      have HT := Lib.hid ht
      clear hf ht hh hl
      generalize texL (d.take k) = ys at *
      go_wp2_with (first | (refine wpList_index_agg rfl 27 _ _ rfl 5 32 cs.toArray k _ .u8 _ rfl rfl Tryd.underlying27 Tryd.underlying5 rfl rfl hlt hix ?_))
      go_region_law (
        ((refine step_append_lies _ (by rfl) _ _ _ (by rfl) w.heap.size 5 i0 _ 1 1 Tryd.underlying26 hi hz0 hz1 hz2 rfl (by omega) u3 _ _ (by rfl) ((HO.out.alloc _).drew)
              ⟨wr.heap.size, 0, none⟩ 2 2 [.int .u8 A, .int .u8 C] (by rfl) (by rfl) (World.news_of_block (cs := #[.int .u8 A, .int .u8 C]) (t := 5) (fr := (0, 0)) (heap_alloc_new wr _)) (by simp [Value.oneCell'])
              (by omega) hm1 hm2 (by simp; omega) (wr.heap.size + 1) (by simp) ?_; intro gg cap w1 hown1 hgrow hat hgl)))
      all_goals
        have k1 : Kept (blk u3) wr w1 := ((Kept.alloc (fun _ => False) wr _).drew).trans (Kept.ofGrown (S := blk u3) hgrow fun k e => e) (fun _ _ h => h.elim) (fun _ _ h => h)
        have k2 : Kept (fun _ => False) w w1 := hkw.trans k1 (fun _ _ h => h) (fun i hi e => by have := HFB.out i e; omega)
        have hf2 : Fresh w1 w.heap.size (.slice (some ⟨gg, 0, none⟩) (ys.length + 2) cap) (texL (d.take (k + 1))) := by
          rw [HT.out]
          exact ⟨by rw [List.length_append, bv_append]; exact hown1, fun k hk => (hown1.lt k hk).1⟩
        have HF2 := Lib.hid hf2; have HK2 := Lib.hid k2
        clear hown1 hgrow hat k1 k2 hf2
        go_wp2
        go_roundw
        case rel =>
          first
            | exact ⟨k + 1, by omega, by go_num, HF2.out, HK2.out⟩
            | ((repeat apply Exists.intro); exact ⟨⟨k + 1, by omega, by go_num, HF2.out, HK2.out⟩, rfl⟩)
        case measure => simp [intOf]; omega
    · obtain rfl : k = 32 := by omega
      rw [List.take_of_length_le (by omega)] at hf
      have hs := reads_str hf.reads
      have HK := Lib.hid hkw
      clear hf hkw
      obtain ⟨str, hstr⟩ : ∃ str, str = strOfNums ((texL d).map fun n : Nat => (n : Int)) := ⟨_, rfl⟩
      rw [← hstr] at hs
      have HSTR := Lib.hid hstr; clear hstr
      go_wp2_with fail
      go_ret
      exact ⟨by first | rfl | (rw [HSTR.out]; rfl), HK.out⟩
end Go.Proofs.YtdmnanocmpkhjaaDoor
