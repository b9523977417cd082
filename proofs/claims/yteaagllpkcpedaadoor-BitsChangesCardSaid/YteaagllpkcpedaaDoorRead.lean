/-
  bits.Read: the set with an encoding.
-/
import Derived.Test.YteaagllpkcpedaaDoorOf
import Derived.Test.YteaagllpkcpedaaDoorReadM
namespace Go.Proofs.YteaagllpkcpedaaDoor
open Go.RowKit

/-- Bytes that are those of no set. -/
def BadSet (p : List Nat) : Prop := 512 < p.length ∨ (0 < p.length ∧ p.getD (p.length - 1) 0 = 0)

instance (p : List Nat) : Decidable (BadSet p) := by unfold BadSet; infer_instance

theorem wv_nil (n : Nat) : (madeCells #[Value.int .u64 0] n).toList = wv (wl 0 n) := by rw [wl_zero]; exact wv_zero n

/-- What 'pack' gives of the words of M is the set M. -/
theorem setv_of_pack {S : Nat → Prop} {w1 w2 : World} {g M n : Nat} {hv : Value} (hpr : PackRes w1 g (wl M n) hv) (hn : 1 ≤ n) (hM : M < 2 ^ (64 * n)) (hk : Kept S w1 w2) (hS : ¬ S g) :
    SetV w2 (.agg #[.int .u64 ((wl M n).getD 0 0 : Nat), hv]) M := by
  obtain ⟨t, ht1, ht2, ht3, ht4⟩ := hpr.ex
  have hlo : (wl M n).getD 0 0 = M % 2 ^ 64 := by
    rw [wl_getD _ _ _ (by omega)]
    simp
  have ht := ht1
  rw [wl_drop1] at ht
  have hM2 : M / 2 ^ 64 < 2 ^ (64 * (n - 1)) := by
    refine Nat.div_lt_of_lt_mul ?_
    rw [← Nat.pow_add, show 64 + 64 * (n - 1) = 64 * n by omega]
    exact hM
  have hcan := ht.canon hM2
  rw [← wl_drop1] at hcan
  refine ⟨⟨_, _, by rw [hlo], ht2.kept hk ?_, hcan, ?_⟩⟩
  · intro k hk' e
    rcases ht4 with h4 | h4
    · rw [h4] at hk'; cases hk'
    · rw [h4] at hk'; cases hk'; exact hS e
  · intro hnil
    refine ht3 ?_
    have := congrArg List.length hnil
    have hle := ht1.le
    simp at this hle
    omega

theorem pack_form {w : World} {g : Nat} {ws : List Nat} {hv : Value} (h : PackRes w g ws hv) : (∃ a n c, hv = .slice a n c) ∧ (hv.ownBlock = none ∨ hv.ownBlock = some g) := by
  obtain ⟨t, _, h2, _, h4⟩ := h.ex
  obtain ⟨a, c, e⟩ := h2.form
  exact ⟨⟨_, _, _, e⟩, h4⟩

set_option maxRecDepth 100000 in
set_option maxHeartbeats 400000 in
theorem read_long (w : World) (a : Option Addr) (n c : Nat) (hn : 512 < n) (hm : n ≤ 9223372036854775807) :
    Calls Tryd.prog 32 #[.slice a n c] w fun e w' => e = .returned (.tuple #[.agg #[.int .u64 0, .slice none 0 0], .int .i64 6]) ∧ Kept (fun _ => False) w w' := by
  have hi : (512 : Int) < (n : Int) := by omega
  go_enter Tryd.func32, Tryd.ntmps32
  go_wp2_with fail
  exact bodyPost_ret (v := .tuple #[.agg #[.int .u64 0, .slice none 0 0], .int .i64 6]) (by simp [results, Tryd.results32, go_sem]) rfl ⟨rfl, Kept.alloc _ _ _⟩

set_option maxRecDepth 100000 in
set_option maxHeartbeats 400000 in
theorem read_zero (w : World) (g off n c : Nat) (hn : n + 1 ≤ 512) (_hc : n + 1 ≤ c) (hz : w.cell? ⟨g, off + n, none⟩ = some (.int .u8 0)) :
    Calls Tryd.prog 32 #[.slice (some ⟨g, off, none⟩) (n + 1 : Nat) c] w fun e w' => e = .returned (.tuple #[.agg #[.int .u64 0, .slice none 0 0], .int .i64 6]) ∧ Kept (fun _ => False) w w' := by
  have hi : ¬ (512 : Int) < (n : Int) + 1 := by omega
  have hlt := World.block_lt_of_cell? w _ hz
  have hz' : (w.alloc (.cells #[.int .u64 0, .slice none 0 0] 28)).cell? ⟨g, off + n, none⟩ = some (.int .u8 0) := by rw [World.cell?_alloc_past _ _ _ hlt]; exact hz
  go_enter Tryd.func32, Tryd.ntmps32
  go_wp2_with fail
  exact bodyPost_ret (v := .tuple #[.agg #[.int .u64 0, .slice none 0 0], .int .i64 6]) (by simp [results, Tryd.results32, go_sem]) rfl ⟨rfl, Kept.alloc _ _ _⟩

set_option maxRecDepth 100000 in
set_option maxHeartbeats 1600000 in
theorem read_at (w : World) (g off cap : Nat) (p : List Nat) (_hcap : p.length ≤ cap) (hg : g < w.heap.size) (hl : 0 < p.length) (hl2 : p.length ≤ 512) (hby : ∀ b ∈ p, b < 256) (hlast : p.getD (p.length - 1) 0 ≠ 0)
    (hc : Hid (∀ i, i < p.length → w.cell? ⟨g, off + i, none⟩ = some (.int .u8 (p.getD i 0 : Nat)))) :
    Calls Tryd.prog 32 #[.slice (some ⟨g, off, none⟩) p.length cap] w fun e w' => ∃ v, e = .returned (.tuple #[v, .int .i64 0]) ∧ SetV w' v (numLE p) ∧ (∀ k, setBlk v k → w.heap.size ≤ k) ∧ Kept (fun _ => False) w w' := by
  obtain ⟨i0, hi, hz0, hz1, hz2⟩ := info_parts info_u64
  obtain ⟨L, hL⟩ : ∃ L, p.length = L + 1 := ⟨p.length - 1, by omega⟩
  obtain ⟨n, hn⟩ : ∃ n : Nat, n = (p.length + 7) / 8 := ⟨_, rfl⟩
  have hn64 : n ≤ 64 := by omega
  have hn1 : 1 ≤ n := by omega
  have e1 : (((L : Int) + 1 + 7) / 8) = (n : Int) := by omega
  have hcl := hc.out L (by omega)
  obtain ⟨z, hz⟩ : ∃ z, z = p.getD L 0 := ⟨_, rfl⟩
  rw [← hz] at hcl
  have hzb : ((z : Int) == 0) = false := by
    have : z ≠ 0 := by rw [hz]; rw [hL] at hlast; simpa using hlast
    simp; omega
  have hcl' : (w.alloc (.cells #[.int .u64 0, .slice none 0 0] 28)).cell? ⟨g, off + L, none⟩ = some (.int .u8 z) := by rw [World.cell?_alloc_past _ _ _ hg]; exact hcl
  have hLi : ¬ (512 : Int) < (L : Int) + 1 := by omega
  have hLi2 : (L : Int) + 1 ≤ 512 := by omega
  have HBY := Lib.hid hby; clear hby
  have HL := Lib.hid hL
  have HN := Lib.hid hn
  have HZ := Lib.hid hz
  rw [hL]
  clear hL hn hz hlast hl hl2 hcl
  go_enter Tryd.func32, Tryd.ntmps32
  go_wp2_with (refine wpList_make_full _ rfl _ _ _ rfl w.heap.size 25 i0 _ 1 Tryd.underlying26 hi hz0 hz1 _ _ _ _ n rfl rfl e1 e1 (by rw [hz2]; omega) (by unfold maxLen; omega) (by simp) ?_)
  intro wA hownA hgrowA
  rw [wv_nil] at hownA
  have hkA : Kept (fun _ => False) w wA := (Kept.alloc (fun _ => False) w _).trans (Kept.ofGrown (S := fun _ => False) hgrowA (fun k e => by cases e)) (fun _ _ h => h) (fun _ _ h => h)
  have r0 : wA.cell? ⟨w.heap.size, 0, none⟩ = some (.int .u64 0) := (hgrowA.cell_far ⟨w.heap.size, 0, none⟩ (by simp) (by simp)).trans (by go_simp)
  have r1 : wA.cell? ⟨w.heap.size, 1, none⟩ = some (.slice none 0 0) := (hgrowA.cell_far ⟨w.heap.size, 1, none⟩ (by simp) (by simp)).trans (by go_simp)
  have rf : ∀ i, wA.frozen? ⟨w.heap.size, i, none⟩ = false := fun i => (hgrowA.frozen_far ⟨w.heap.size, i, none⟩ (by simp) (by simp)).trans (by go_simp)
  have hAs : w.heap.size + 1 < wA.heap.size := by
    obtain ⟨_, hh⟩ := hownA
    rcases hh with ⟨h, _⟩ | ⟨g', cap', cur, h, _, hg', _⟩
    · cases h
    · cases h; exact (Array.getElem?_eq_some_iff.1 hg').1
  have RF := Lib.hid rf; clear rf
  have R0 := Lib.hid r0; clear r0
  have R1 := Lib.hid r1; clear r1
  have HOA := Lib.hid hownA; clear hownA
  clear hgrowA hcl'
  go_wp2_with fail
  go_loopw [31] (fun iv wr => ∃ k : Nat, k ≤ L + 1 ∧ iv = .int .i64 k ∧ Hid (wr.ownsRow w.heap.size 25 1 (.slice (some ⟨w.heap.size + 1, 0, none⟩) n n) n (wv (wl (numLE (p.take k)) n))) ∧ Kept (fun k => k = w.heap.size + 1) wA wr) (fun iv _ => L + 1 - (intOf iv).toNat)
  case atStart => exact ⟨0, Nat.zero_le _, rfl, HOA.out, Kept.refl _ _⟩
  case round =>
    obtain ⟨k, hk, rfl, ho, hkr⟩ := hrel
    by_cases hlt : k < L + 1
    · have hkp : k < p.length := by rw [HL.out]; exact hlt
      have hlt' : (k : Int) < (L : Int) + 1 := by omega
      have hk0 : (0 : Int) ≤ (k : Int) := by omega
      obtain ⟨x, hx⟩ : ∃ x, x = p.getD k 0 := ⟨_, rfl⟩
      have ck : wr.cell? ⟨g, off + k, none⟩ = some (.int .u8 x) := by
        rw [hx, hkr.cell (p := ⟨g, off + k, none⟩) (Nat.lt_of_lt_of_le hg hkA.size) (by simp; omega), hkA.cell (p := ⟨g, off + k, none⟩) hg (fun h => h)]
        exact hc.out k hkp
      have hx256 : x < 256 := by rw [hx, List.getD_eq_getElem?_getD, List.getElem?_eq_getElem hkp]; exact HBY.out _ (List.getElem_mem _)
      have hsn := numLE_snoc p k hkp HBY.out
      rw [← hx] at hsn
      have HX := Lib.hid hx; clear hx
      obtain ⟨q, hqq⟩ : ∃ q : Nat, q = k / 8 := ⟨_, rfl⟩
      obtain ⟨r, hr⟩ : ∃ r : Nat, r = k % 8 := ⟨_, rfl⟩
      obtain ⟨S, hS⟩ : ∃ S : Nat, S = 8 * r := ⟨_, rfl⟩
      obtain ⟨c, hcc⟩ : ∃ c : Nat, c = x * 2 ^ S := ⟨_, rfl⟩
      obtain ⟨y, hy⟩ : ∃ y : Nat, y = (wl (numLE (p.take k)) n).getD q 0 := ⟨_, rfl⟩
      obtain ⟨z2, hz2'⟩ : ∃ z : Nat, z = y ||| c := ⟨_, rfl⟩
      have hqn : q < n := by have := HN.out; have := HL.out; omega
      have hq : ((k : Int) / 8) = (q : Int) := by omega
      have hq0 : (0 : Int) ≤ (q : Int) := by omega
      have hq1 : (q : Int) < (n : Int) := by omega
      have hqw : IntKind.i64.wrap (q : Int) = (q : Int) := IntWalk.i64_in _ (by omega)
      have hr1 : ((k : Int) % 8) = (r : Int) := by omega
      have hs1 : ((r : Int) * 8) = (S : Int) := by omega
      have hrw : IntKind.i64.wrap ((r : Int) * 8) = (S : Int) := by rw [IntWalk.i64_in _ (by omega)]; omega
      have hS0 : (0 : Int) ≤ (S : Int) := by omega
      have hS1 : (S : Int) ≤ 64 := by omega
      have hpow : (2 : Nat) ^ S ≤ 72057594037927936 := by
        have h2 : (2 : Nat) ^ S ≤ 2 ^ 56 := Nat.pow_le_pow_right (by omega) (by omega)
        simpa using h2
      have hc64 : c < 18446744073709551616 := by
        have h3 : x * 2 ^ S ≤ 255 * 72057594037927936 := Nat.mul_le_mul (by omega) hpow
        omega
      have hxw : IntKind.u64.wrap (x : Int) = (x : Int) := IntWalk.u64_in _ (by omega)
      have hsh : IntKind.u64.wrap ((x : Int) * 2 ^ S) = (c : Int) := by
        have e : ((x : Int) * 2 ^ S) = ((c : Nat) : Int) := by rw [hcc]; simp
        rw [e, IntWalk.u64_in _ (by omega)]
      have cq : wr.cell? ⟨w.heap.size + 1, q, none⟩ = some (.int .u64 y) := by
        rw [ho.out.cellAt q (by omega), wv_getD _ _ (by rw [wl_length]; exact hqn), hy]
      have fq : wr.frozen? ⟨w.heap.size + 1, q, none⟩ = false := ho.out.frozenAt q
      have hy64 : y < 18446744073709551616 := by
        rw [hy, wl_getD _ _ _ hqn]
        exact Nat.mod_lt _ (by omega)
      have hor : bits .or .u64 (y : Int) (c : Int) = (z2 : Int) := by rw [hz2']; exact u64_or_nat _ _ hy64 hc64
      have hfin : wv ((wl (numLE (p.take k)) n).set q z2) = wv (wl (numLE (p.take (k + 1))) n) := by
        rw [hsn, ← wl_byte _ _ _ _ hx256, ← hqq, ← hr, ← hS, ← hcc, ← hy, ← hz2']
      have HF := Lib.hid hfin; clear hfin
      have HX256 := Lib.hid hx256; clear hx256
      clear hsn hy hz2' hqq hr hS hcc hpow hc64 hy64
      go_wp2_with fail
      go_region
      all_goals
        go_wp2
        go_roundw
        case rel =>
          have hst := ho.out.stored q (.int .u64 (z2 : Int))
          rw [wv_set, HF.out] at hst
          exact ⟨k + 1, by omega, by go_num, hst.1, hkr.trans (Kept.setCell (fun k => k = w.heap.size + 1) _ _ _ rfl).drew (fun _ _ h => h) (fun _ _ h => h)⟩
        case measure => simp [intOf]; omega
    · obtain rfl : k = L + 1 := by omega
      rw [← HL.out, List.take_length] at ho
      have hM : numLE p < 2 ^ (64 * n) := Nat.lt_of_lt_of_le (numLE_lt p HBY.out) (Nat.pow_le_pow_right (by omega) (by have := HN.out; omega))
      have c0 : wr.cell? ⟨w.heap.size, 0, none⟩ = some (.int .u64 0) := (hkr.cell (p := ⟨w.heap.size, 0, none⟩) (by simp; omega) (by simp)).trans R0.out
      have c1 : wr.cell? ⟨w.heap.size, 1, none⟩ = some (.slice none 0 0) := (hkr.cell (p := ⟨w.heap.size, 1, none⟩) (by simp; omega) (by simp)).trans R1.out
      have f0 : wr.frozen? ⟨w.heap.size, 0, none⟩ = false := (hkr.frozen (p := ⟨w.heap.size, 0, none⟩) (by simp; omega) (by simp)).trans (RF.out 0)
      have f1 : wr.frozen? ⟨w.heap.size, 1, none⟩ = false := (hkr.frozen (p := ⟨w.heap.size, 1, none⟩) (by simp; omega) (by simp)).trans (RF.out 1)
      have hwr : w.heap.size + 1 < wr.heap.size := Nat.lt_of_lt_of_le hAs hkr.size
      have hkw : Kept (fun _ => False) w wr := hkA.trans hkr (fun _ _ h => h) (fun i hi e => by omega)
      have C0 := Lib.hid c0; have C1 := Lib.hid c1; have F0 := Lib.hid f0; have F1 := Lib.hid f1; clear c0 c1 f0 f1
      have HM := Lib.hid hM; clear hM
      obtain ⟨M, hMe⟩ : ∃ M, M = numLE p := ⟨_, rfl⟩
      rw [← hMe] at ho HM
      have HME := Lib.hid hMe; clear hMe
      obtain ⟨m, hm⟩ : ∃ m, n = m + 1 := ⟨n - 1, by omega⟩
      obtain ⟨lo, hlo⟩ : ∃ lo : Nat, lo = (wl M n).getD 0 0 := ⟨_, rfl⟩
      have hcells : ∀ i, i < (wl M n).length → wr.cell? ⟨w.heap.size + 1, 0 + i, none⟩ = some (.int .u64 ((wl M n).getD i 0 : Nat)) := fun i hi => by
        rw [Nat.zero_add, ho.out.cellAt i (by rw [wl_length] at hi; omega), wv_getD _ _ hi]
      have HP := Lib.hid (pack_at wr (w.heap.size + 1) 0 n m (wl M n) lo (by rw [wl_length, hm]) (by omega) (by unfold maxLen; omega) hwr hcells hlo)
      have HCE := Lib.hid hcells; clear hcells
      have HLO := Lib.hid hlo; clear hlo
      rw [← hm] at HP
      have HMM := Lib.hid hm; clear hm
      go_wp2_with fail
      refine HP.out.mono ?_
      rintro e w1 ⟨hv, rfl, hpr, hk1⟩
      have c0 := (hk1.cell (p := ⟨w.heap.size, 0, none⟩) (by simp; omega) (by simp)).trans C0.out
      have c1 := (hk1.cell (p := ⟨w.heap.size, 1, none⟩) (by simp; omega) (by simp)).trans C1.out
      have f0 := (hk1.frozen (p := ⟨w.heap.size, 0, none⟩) (by simp; omega) (by simp)).trans F0.out
      have f1 := (hk1.frozen (p := ⟨w.heap.size, 1, none⟩) (by simp; omega) (by simp)).trans F1.out
      obtain ⟨⟨a, tl, c, hform⟩, hown⟩ := pack_form hpr
      have HPR := Lib.hid hpr; clear hpr
      have HOW := Lib.hid hown; clear hown
      subst hform
      go_wp2
      refine bodyPost_ret (v := .tuple #[.agg #[.int .u64 lo, .slice a tl c], .int .i64 0]) (by simp [results, Tryd.results32, go_sem, c0, c1]) rfl ⟨_, rfl, ?_, ?_, ?_⟩
      · rw [HLO.out, ← HME.out]
        exact setv_of_pack HPR.out hn1 HM.out ((Kept.setCell (fun k => k = w.heap.size) _ ⟨w.heap.size, 0, none⟩ _ rfl).trans (Kept.setCell (fun k => k = w.heap.size) _ ⟨w.heap.size, 1, none⟩ _ rfl) (fun _ _ h => h) (fun _ _ h => h)) (by omega)
      · rintro k ⟨lo', hv', he, hb⟩
        cases he
        rcases HOW.out with h4 | h4
        · rw [h4] at hb; cases hb
        · rw [h4] at hb; cases hb; omega
      · exact (hkw.trans hk1 (fun _ _ h => h) (fun _ _ h => h)).trans ((Kept.setCell (fun k => k = w.heap.size) _ ⟨w.heap.size, 0, none⟩ _ rfl).trans (Kept.setCell (fun k => k = w.heap.size) _ ⟨w.heap.size, 1, none⟩ _ rfl) (fun _ _ h => h) (fun _ _ h => h)) (fun _ _ h => h) (fun i hi e => by omega)

set_option maxRecDepth 100000 in
set_option maxHeartbeats 800000 in
theorem read_empty (w : World) (a : Option Addr) (c : Nat) :
    Calls Tryd.prog 32 #[.slice a 0 c] w fun e w' => e = .returned (.tuple #[.agg #[.int .u64 0, .slice none 0 0], .int .i64 0]) ∧ Kept (fun _ => False) w w' := by
  have hmk : ∀ w, (Instr.makeSlice 26 (.int .i64 0) (.int .i64 0)).run Tryd.prog w = .ok (.slice (some ⟨w.heap.size, 0, none⟩) 0 0) (w.alloc (.cells #[] 25)) := fun _ => by kernel_rfl
  go_enter Tryd.func32, Tryd.ntmps32
  go_wp2_with fail
  go_loopw [31] (fun iv wr => iv = .int .i64 0 ∧ wr = (w.alloc (.cells #[.int .u64 0, .slice none 0 0] 28)).alloc (.cells #[] 25)) (fun _ _ => 0)
  case atStart => exact ⟨rfl, rfl⟩
  case round =>
    obtain ⟨rfl, rfl⟩ := hrel
    go_wp2_with fail
    refine (pack_nil _ _ _).mono ?_
    rintro e w1 ⟨rfl, hk1⟩
    have hk := (Kept.alloc (fun _ => False) (w.alloc (.cells #[.int .u64 0, .slice none 0 0] 28)) (.cells #[] 25)).then hk1
    obtain ⟨c0, c1, hlt⟩ := box_cells hk (fun h => h)
    have f0 : w1.frozen? ⟨w.heap.size, 0, none⟩ = false := (hk.frozen (p := ⟨w.heap.size, 0, none⟩) (by simp) (fun h => h)).trans (by go_simp)
    have f1 : w1.frozen? ⟨w.heap.size, 1, none⟩ = false := (hk.frozen (p := ⟨w.heap.size, 1, none⟩) (by simp) (fun h => h)).trans (by go_simp)
    go_wp2
    refine bodyPost_ret (v := .tuple #[.agg #[.int .u64 0, .slice none 0 0], .int .i64 0]) (by simp [results, Tryd.results32, go_sem, c0, c1]) rfl ⟨rfl, ?_⟩
    exact ((Kept.alloc (fun _ => False) w _).then hk).trans ((Kept.setCell (fun k => k = w.heap.size) _ ⟨w.heap.size, 0, none⟩ _ rfl).trans (Kept.setCell (fun k => k = w.heap.size) _ ⟨w.heap.size, 1, none⟩ _ rfl) (fun _ _ h => h) (fun _ _ h => h)) (fun _ _ h => h) (fun i hi e => by omega)

theorem setv_zero (w : World) : SetV w (.agg #[.int .u64 0, .slice none 0 0]) 0 :=
  ⟨⟨_, [], rfl, Or.inl ⟨rfl, rfl⟩, ⟨rfl, by simp, Or.inl rfl⟩, fun _ => rfl⟩⟩

/-- bits.Read of bytes of a set. -/
theorem read_good (w : World) (v : Value) (p : List Nat) (h : Reads w v p) (hby : ∀ b ∈ p, b < 256) (hg : ¬ BadSet p) :
    Calls Tryd.prog 32 #[v] w fun e w' => ∃ sv, e = .returned (.tuple #[sv, .int .i64 0]) ∧ SetV w' sv (numLE p) ∧ (∀ k, setBlk sv k → w.heap.size ≤ k) ∧ Kept (fun _ => False) w w' := by
  by_cases h0 : p.length = 0
  · have hp : p = [] := List.eq_nil_of_length_eq_zero h0
    subst hp
    obtain ⟨a, c, rfl⟩ : ∃ a c, v = .slice a 0 c := by
      rcases h with ⟨rfl, _⟩ | ⟨g, off, cap, rfl, _⟩
      · exact ⟨_, _, rfl⟩
      · exact ⟨_, _, rfl⟩
    refine (read_empty w a c).mono ?_
    rintro e w' ⟨rfl, hk⟩
    refine ⟨_, rfl, setv_zero w', ?_, hk⟩
    rintro k ⟨lo, hv, he, hb⟩
    cases he
    simp [Value.ownBlock] at hb
  · rcases h with ⟨_, rfl⟩ | ⟨g, off, cap, rfl, h1, h2, h3, h4⟩
    · simp at h0
    · have hl : p.length ≤ 512 := by
        rcases Nat.lt_or_ge 512 p.length with hh | hh
        · exact absurd (Or.inl hh) hg
        · exact hh
      exact read_at w g off cap p h1 h3 (by omega) hl hby (fun e => hg (Or.inr ⟨by omega, e⟩)) h4

/-- bits.Read of other bytes. -/
theorem read_bad (w : World) (v : Value) (p : List Nat) (h : Reads w v p) (hg : BadSet p) :
    Calls Tryd.prog 32 #[v] w fun e w' => e = .returned (.tuple #[.agg #[.int .u64 0, .slice none 0 0], .int .i64 6]) ∧ Kept (fun _ => False) w w' := by
  rcases h with ⟨_, rfl⟩ | ⟨g, off, cap, rfl, h1, h2, h3, h4⟩
  · rcases hg with hg | hg
    · simp at hg
    · exact absurd hg.1 (by simp)
  · by_cases hl : 512 < p.length
    · exact read_long w _ _ _ hl (by unfold maxLen at h2; omega)
    · rcases hg with hg | ⟨hg, hz⟩
      · exact absurd hg hl
      · obtain ⟨n, hn⟩ : ∃ n, p.length = n + 1 := ⟨p.length - 1, by omega⟩
        have hc := h4 n (by omega)
        rw [show p.getD n 0 = 0 by rw [hn] at hz; simpa using hz] at hc
        rw [hn]
        exact read_zero w g off n cap (by omega) (by omega) hc

end Go.Proofs.YteaagllpkcpedaaDoor
