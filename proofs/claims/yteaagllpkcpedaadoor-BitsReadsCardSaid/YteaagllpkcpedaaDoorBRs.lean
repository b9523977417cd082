/-
  arbacref01: Bytes, Read; arbaclaw01.BitsReads: the walk. (One text, for a claim has at most sixty files.)
-/
import Derived.Test.YteaagllpkcpedaaDoorArgIn
import Derived.OpenShut
import Derived.Lib.SmallJoins
import Derived.Test.YteaagllpkcpedaaDoorBRx
import Derived.Test.YteaagllpkcpedaaDoorBRn
import Derived.Test.YteaagllpkcpedaaDoorAppR8
import Derived.Test.YteaagllpkcpedaaDoorRead
import Derived.Test.YteaagllpkcpedaaDoorBAw
import Derived.Test.YteaagllpkcpedaaDoorBBx
namespace Go.Proofs.YteaagllpkcpedaaDoor
open Go.ChangeShapes Go.WideShapes Go.ChangeAt Go.RowKit Go.Joins

set_option maxRecDepth 100000 in
/-- A slice of bytes that came in: it reads as bytes. -/
theorem bytes_in {H : Type} {enc : TypeId × Value → H} {W : World} {base : Nat} {v : Value} {d : DataW H} {p : List MemPlace} (o : Value.okWide Tryd.prog W .any base 49 v) (h : DataW.Trod enc Tryd.prog W 0 (fun _ => true) true 49 v d p) :
    ∃ a len cap xs, v = .slice a len cap ∧ InBytes W (.slice a len cap) xs := by
  obtain ⟨a, len, cap, rfl⟩ := okWide_slice Tryd.underlying49 o
  have o' := o
  obtain ⟨fuel, hf⟩ := h
  rcases open_ints Tryd.underlying49 Tryd.underlying5 (by kernel_rfl) hf with ⟨hcs, _⟩ | ⟨x, l, c, zs, hcs, _, hl, hm, hz, _, hcell, hwz⟩
  · simp [Value.cells] at hcs
    obtain ⟨rfl, rfl, rfl⟩ := hcs
    obtain ⟨xs, hx⟩ := in_bytes Tryd.underlying49 o' (zs := []) (.inl ⟨rfl, rfl, rfl, rfl⟩)
    exact ⟨_, _, _, xs, rfl, hx⟩
  · simp [Value.cells] at hcs
    obtain ⟨rfl, rfl, rfl⟩ := hcs
    obtain ⟨xs, hx⟩ := in_bytes Tryd.underlying49 o' (zs := zs) (.inr ⟨_, rfl, hl, hm, by simpa using hz, hcell, hwz⟩)
    exact ⟨_, _, _, xs, rfl, hx⟩
end Go.Proofs.YteaagllpkcpedaaDoor

namespace Go.Proofs.YteaagllpkcpedaaDoor
open Go.RowKit

theorem mask_no (l : List Int) : ∀ (M m : Nat), M.testBit m = false → (∀ x ∈ l, x ≠ (m : Int)) → (l.foldl addM M).testBit m = false := by
  induction l with
  | nil => intro M m h _; simpa using h
  | cons x t ih =>
    intro M m h hl
    rw [List.foldl_cons]
    refine ih _ m ?_ fun y hy => hl y (List.mem_cons_of_mem _ hy)
    have hx := hl x List.mem_cons_self
    unfold addM
    split
    · rename_i hr
      rw [or_bit, h, Bool.false_or, decide_eq_false_iff_not]
      omega
    · exact h
theorem mask_step (M k : Nat) (hk : k < (memM M 4096).length) : ∃ m : Nat, (memM M 4096).getD k 0 = (m : Int) ∧ m ≤ 4095 ∧ (maskOf ((memM M 4096).take k)).testBit m = false ∧ maskOf ((memM M 4096).take (k + 1)) = maskOf ((memM M 4096).take k) ||| 2 ^ m := by
  have e : (memM M 4096).getD k 0 = (memM M 4096)[k] := by simp [List.getD, hk]
  obtain ⟨a, b, _⟩ := memM_mem.1 (List.getElem_mem hk)
  obtain ⟨m, hm⟩ := Int.eq_ofNat_of_zero_le a
  refine ⟨m, by rw [e, hm], by omega, ?_, ?_⟩
  · refine mask_no _ 0 m (by simp) fun x hx => ?_
    obtain ⟨j, hj, rfl⟩ := List.getElem_of_mem hx
    have hjk : j < k := by rw [List.length_take] at hj; omega
    have := List.pairwise_iff_getElem.1 (memM_sorted M 4096) j k (by omega) hk hjk
    rw [List.getElem_take, ← hm]
    omega
  · rw [maskOf_take _ _ hk, e, hm, addM, if_pos (by omega), Int.toNat_natCast]

def lenV : Value → Nat
  | .slice _ n _ => n
  | _ => 0

set_option maxRecDepth 100000 in
set_option maxHeartbeats 3200000 in
theorem rbytes_any (w : World) (v : Value) (M : Nat) (h : Ints w v (memM M 4096)) (hS : Small M) :
    Calls Tryd.prog 31 #[v] w fun e w' => ∃ u, e = .returned u ∧ Fresh w' w.heap.size u (bytesOf M) ∧ Kept (fun _ => False) w w' := by
  obtain ⟨a, c, rfl⟩ := h.form
  have HC := Lib.hid h.at
  have hlb := h.len
  have HSTEP := Lib.hid (mask_step M)
  have HEND : Hid (maskOf (memM M 4096) = M) := maskOf_memS hS
  obtain ⟨xs, hxs⟩ : ∃ xs, xs = memM M 4096 := ⟨_, rfl⟩
  rw [← hxs] at HC hlb HSTEP HEND ⊢
  clear h hS hxs
  go_enter Tryd.func31, Tryd.ntmps31
  go_wp2_with fail
  go_loopw [3, 11] (fun ov iv wr => ∃ (k n : Nat), k ≤ xs.length ∧ iv = .int .i64 k ∧ n ≤ 512 ∧ Hid (TopB (maskOf (xs.take k)) n) ∧ Hid (Fresh wr w.heap.size ov (bl8 (maskOf (xs.take k)) n)) ∧ Hid (Kept (fun _ => False) w wr)) (fun _ iv _ => xs.length - (intOf iv).toNat)
  case atStart => exact ⟨0, 0, Nat.zero_le _, rfl, by omega, TopB.zero, ⟨World.ownsRow_nil _ _ _ _, fun k hk => by simp [Value.ownBlock] at hk⟩, Kept.refl _ _⟩
  case round =>
    obtain ⟨k, n, hk, rfl, hn, htop, ho, hkw⟩ := hrel
    by_cases hlt : k < xs.length
    · have hlt' : (k : Int) < (xs.length : Int) := by omega
      obtain ⟨g, off, rfl, hck⟩ := HC.out k hlt
      obtain ⟨x, hx, hx4, hxb, hxm⟩ := HSTEP.out k hlt
      rw [hx] at hck
      have ck := hck wr hkw.out
      obtain ⟨q, hq⟩ : ∃ q, q = x / 8 := ⟨_, rfl⟩
      obtain ⟨r, hr⟩ : ∃ r, r = x % 8 := ⟨_, rfl⟩
      obtain ⟨m, hm⟩ : ∃ m, m = max n (q + 1) := ⟨_, rfl⟩
      have HT2 : Hid (TopB (maskOf (xs.take (k + 1))) m) := by show TopB _ _; rw [hxm]; exact htop.out.add (by rw [hm, hq])
      have hm1 : n ≤ m ∧ q + 1 ≤ m ∧ m ≤ 512 ∧ (m = n ∨ m = q + 1) := by omega
      have hr8 : r < 8 := by omega
      obtain ⟨⟨hq1, hq2⟩, ⟨hr1, hr2⟩⟩ : ((x : Int).tdiv 8 = (q : Int) ∧ (x : Int) / 8 = (q : Int)) ∧ ((x : Int).tmod 8 = (r : Int) ∧ (x : Int) % 8 = (r : Int)) := ⟨⟨by rw [Int.tdiv_eq_ediv_of_nonneg (by omega)]; omega, by omega⟩, ⟨by rw [Int.tmod_eq_emod_of_nonneg (by omega)]; omega, by omega⟩⟩
      have hqw : IntKind.i64.wrap (q : Int) = (q : Int) := IntWalk.i64_in _ (by omega)
      obtain ⟨K, hK⟩ : ∃ K, K = maskOf (xs.take k) := ⟨_, rfl⟩
      rw [← hK] at htop ho hxb hxm
      have HXM := Lib.hid hxm
      have HLT : Hid (∀ j, n ≤ j → bl8 K (j + 1) = bl8 K j ++ [0]) := fun j hj => bl8_more (Nat.lt_of_lt_of_le htop.out.lt (Nat.pow_le_pow_right (by omega) (by omega)))
      obtain ⟨b, hb⟩ : ∃ b, b = K / 2 ^ (8 * q) % 256 := ⟨_, rfl⟩
      obtain ⟨z, hz⟩ : ∃ z, z = b + 2 ^ r := ⟨_, rfl⟩
      have hbb : b.testBit r = false := by
        rw [hb, show (256 : Nat) = 2 ^ 8 from rfl, Nat.testBit_mod_two_pow, Nat.testBit_div_two_pow, show r + 8 * q = x by omega, hxb]
        simp
      have hzo : z = b ||| 2 ^ r := by rw [hz]; exact add_bit b r hbb
      have hb256 : b < 256 := by rw [hb]; exact Nat.mod_lt _ (by omega)
      have hz256 : z < 256 := by
        rw [hzo, show (256 : Nat) = 2 ^ 8 from rfl]
        exact Nat.or_lt_two_pow (by simpa using hb256) (Nat.pow_lt_pow_right (by omega) hr8)
      have HSET : Hid ((bl8 K m).set q z = bl8 (maskOf (xs.take (k + 1))) m) := by
        have := bl8_or K m x (by omega)
        rw [← hq, ← hr, bl8_getD _ _ _ (by omega), ← hb, ← hzo, ← HXM.out] at this
        exact this
      have HGET : Hid ((bl8 K m).getD q 0 = b) := by show _ = _; rw [bl8_getD _ _ _ (by omega), hb]
      have hzw : IntKind.u8.wrap ((b : Int) + ((2 ^ r : Nat) : Int)) = (z : Int) := by
        rw [hz]
        have h3 : (b : Int) + ((2 ^ r : Nat) : Int) = ((b + 2 ^ r : Nat) : Int) := by omega
        rw [h3]
        have h4 : b + 2 ^ r < 256 := by omega
        exact IntWalk.u8_in _ (by omega)
      have HZW := Lib.hid hzw
      clear hx hck hxm hxb hK hb hz hbb hzo hz256 htop hq hr hm hzw HSTEP
      go_wp2_with fail
      go_loopw [3] (fun ov wi => ∃ j : Nat, n ≤ j ∧ j ≤ m ∧ lenV ov = j ∧ Hid (Fresh wi w.heap.size ov (bl8 K j)) ∧ Hid (Kept (fun _ => False) w wi)) (fun ov _ => m - lenV ov)
      case atStart =>
        obtain ⟨a3, c3, hf3⟩ := ho.out.reads.formR8
        exact ⟨n, Nat.le_refl _, hm1.1, by rw [hf3]; simp [lenV, bl8_length], ho, hkw⟩
      case round =>
        obtain ⟨j, hj1, hj2, hj3, hoj, hkj⟩ := hrel
        obtain ⟨a3, c3, hf3⟩ := hoj.out.reads.formR8
        rw [bl8_length] at hf3
        subst hf3
        clear hj3
        by_cases hjq : j ≤ q
        · have hjq' : (j : Int) ≤ (q : Int) := by omega
          have hI : Reads (wr.alloc (.cells #[.int .u8 0] 5)) (.slice (some ⟨wr.heap.size, 0, none⟩) 1 1) [0] := Or.inr ⟨wr.heap.size, 0, 1, rfl, Nat.le_refl _, by simp [maxLen], by simp, fun i hi => by
            obtain rfl : i = 0 := by simpa using hi
            go_simp⟩
          obtain ⟨a4, c4, w4, hr4, hf4, hk4⟩ := append_reads_run (⟨hoj.out.own.alloc _, hoj.out.block⟩ : Fresh (wr.alloc (.cells #[.int .u8 0] 5)) w.heap.size (.slice a3 j c3) (bl8 K j)) hI (by rw [bl8_length]; simp; omega) (by have := hkj.out.size; simp; omega)
          rw [← HLT.out j hj1, bl8_length] at hr4 hf4
          have R4 := Lib.hid hr4
          have HF4 := Lib.hid hf4
          have HK4 : Hid (Kept (fun _ => False) w w4) := (hkj.out.then (Kept.alloc _ _ _)).trans hk4 (fun _ _ h => h) (fun i hi e => by have := hoj.out.block i e; omega)
          clear hI hr4 hf4 hk4
          go_wp2_with (at_builtin; refine wpList_append_run (by rfl) _ _ _ _ rfl _ _ rfl rfl R4.out ?_)
          go_wp2
          go_roundw
          case rel => exact ⟨j + 1, by omega, by omega, rfl, HF4, HK4⟩
          case measure => simp [lenV]; omega
        · have hjm : j = m := by omega
          subst hjm
          have hjq' : ¬ (j : Int) ≤ (q : Int) := by omega
          obtain ⟨wb, hwb⟩ : ∃ wb : World, wb = wr := ⟨_, rfl⟩
          rw [← hwb] at hoj hkj ⊢
          clear hwb
          have hown := hoj.out.own
          rw [bl8_length] at hown
          have hgb : ∃ gb, a3 = some ⟨gb, 0, none⟩ := by
            obtain ⟨_, hh⟩ := hown
            rcases hh with ⟨_, h0⟩ | ⟨g', cap', cur, he, _⟩
            · omega
            · cases he; exact ⟨g', rfl⟩
          obtain ⟨gb, rfl⟩ := hgb
          have HOWN := Lib.hid hown
          clear hown
          go_wp2_with fail
          go_loop [6, 7] (fun pv iv => ∃ i : Nat, i ≤ r ∧ pv = .int .u8 (2 ^ i : Nat) ∧ iv = .int .i64 i) (fun _ iv => r - (intOf iv).toNat)
          case atStart => exact ⟨0, Nat.zero_le _, rfl, rfl⟩
          case round =>
            obtain ⟨i, hi, rfl, rfl⟩ := hrel
            by_cases hir : i < r
            · have hir' : (i : Int) < (r : Int) := by omega
              obtain ⟨p, hp⟩ : ∃ p, p = 2 ^ i := ⟨_, rfl⟩
              have hp2 : 2 ^ (i + 1) = p * 2 := by rw [hp, Nat.pow_succ]
              have hp8 : 2 ^ (i + 1) ≤ 2 ^ 7 := Nat.pow_le_pow_right (by omega) (by omega)
              have hpw : IntKind.u8.wrap ((p : Int) * 2) = ((p * 2 : Nat) : Int) := by
                have h3 : (p : Int) * 2 = ((p * 2 : Nat) : Int) := by omega
                rw [h3]; exact IntWalk.u8_in _ (by omega)
              have HP := Lib.hid hp2
              rw [← hp]
              clear hp hp2 hp8
              go_wp2_with fail
              go_round
              case rel => exact ⟨i + 1, by omega, by rw [HP.out]; simp, by go_num⟩
              case measure => simp [intOf]; omega
            · obtain rfl : i = r := by omega
              have hir' : ¬ (i : Int) < (i : Int) := by omega
              have cq : wb.cell? ⟨gb, q, none⟩ = some (.int .u8 b) := by
                rw [HOWN.out.cellAt q (by omega), bv_at8 _ _ (by rw [bl8_length]; omega), HGET.out]
              have fq : wb.frozen? ⟨gb, q, none⟩ = false := HOWN.out.frozenAt q
              have hst := HOWN.out.stored q (.int .u8 (z : Int))
              have e2 : (bv (bl8 K j)).set q (.int .u8 (z : Int)) = bv (bl8 (maskOf (xs.take (k + 1))) j) := by
                rw [← HSET.out]; simp [bv]
              rw [e2] at hst
              have HFR : Hid (Fresh (wb.setCell ⟨gb, q, none⟩ (.int .u8 (z : Int))) w.heap.size (.slice (some ⟨gb, 0, none⟩) j c3) (bl8 (maskOf (xs.take (k + 1))) j)) := ⟨by rw [bl8_length]; exact hst.1, hoj.out.block⟩
              have HKS : Hid (Kept (fun _ => False) w (wb.setCell ⟨gb, q, none⟩ (.int .u8 (z : Int)))) := hkj.out.trans (Kept.setCell (fun k => k = gb) _ ⟨gb, q, none⟩ _ rfl) (fun _ _ h => h) (fun i hi e => by have := hoj.out.block gb rfl; omega)
              have hzw := HZW.out
              obtain ⟨p, hp⟩ : ∃ p, p = 2 ^ i := ⟨_, rfl⟩
              rw [← hp] at hzw ⊢
              have hq0 : (0 : Int) ≤ (q : Int) := by omega
              have hqj : (q : Int) < (j : Int) := by omega
              clear hp hst e2 HZW HSET HGET
              go_wp2_with fail
              go_roundw
              case rel => exact ⟨k + 1, j, by omega, by go_num, by omega, HT2, HFR, HKS⟩
              case measure => simp [intOf]; omega
    · have hkx : k = xs.length := by omega
      have ho2 := ho.out
      have ht2 := htop.out
      rw [hkx, List.take_length, HEND.out] at ho2 ht2
      rw [ht2.bytes] at ho2
      have HO := Lib.hid ho2
      have hnl : ¬ (k : Int) < (xs.length : Int) := by omega
      clear hkx ho htop ho2 ht2
      go_wp2_with fail
      go_ret
      exact ⟨_, rfl, HO.out, hkw.out⟩
end Go.Proofs.YteaagllpkcpedaaDoor

namespace Go.Proofs.YteaagllpkcpedaaDoor
open Go.RowKit

theorem Reads.at {w : World} {a : Option Addr} {n c : Nat} {xs : List Nat} (h : Reads w (.slice a n c) xs) : ∀ k, k < xs.length → ∃ g off, a = some ⟨g, off, none⟩ ∧ ∀ W, Kept (fun _ => False) w W → W.cell? ⟨g, off + k, none⟩ = some (.int .u8 (xs.getD k 0 : Nat)) := by
  intro k hk
  rcases h with ⟨_, rfl⟩ | ⟨g, off, cap, e, _, _, h3, h4⟩
  · simp at hk
  · cases e
    exact ⟨g, off, rfl, fun W hkw => (hkw.cell (p := ⟨g, off + k, none⟩) h3 (fun h => h)).trans (h4 k hk)⟩
theorem Reads.len {w : World} {v : Value} {xs : List Nat} (h : Reads w v xs) : xs.length ≤ 9223372036854775807 := by
  rcases h with ⟨_, rfl⟩ | ⟨_, _, _, _, h1, h2, _⟩
  · simp
  · unfold maxLen at h2; omega

set_option maxRecDepth 100000 in
set_option maxHeartbeats 1600000 in
theorem rread_bad (w : World) (v : Value) (p : List Nat) (h : Reads w v p) (hg : BadSet p) :
    Calls Tryd.prog 33 #[v] w fun e w' => e = .returned (.tuple #[.slice none 0 0, .bool false]) ∧ Kept (fun _ => False) w w' := by
  obtain ⟨a, c, rfl⟩ := h.formR8
  have hlb := h.len
  by_cases h5 : 512 < p.length
  · have h5' : (512 : Int) < (p.length : Int) := by omega
    clear h hg
    go_enter Tryd.func33, Tryd.ntmps33
    go_wp2_with fail
    go_ret2
    exact ⟨rfl, Kept.refl _ _⟩
  · obtain ⟨h1, h2⟩ := hg.resolve_left h5
    obtain ⟨n, hn⟩ : ∃ n, p.length = n + 1 := ⟨p.length - 1, by omega⟩
    obtain ⟨g, off, rfl, hc⟩ := h.at n (by omega)
    have ck := hc w (Kept.refl _ _)
    rw [show p.getD n 0 = 0 by rw [hn] at h2; simpa using h2] at ck
    have h5' : ¬ (512 : Int) < (n : Int) + 1 := by omega
    have h6 : (0 : Int) < (n : Int) + 1 := by omega
    rw [hn]
    clear h hg hc h1 h2 hn hlb h5
    go_enter Tryd.func33, Tryd.ntmps33
    go_wp2_with fail
    go_ret2
    exact ⟨rfl, Kept.refl _ _⟩

set_option maxRecDepth 100000 in
set_option maxHeartbeats 3200000 in
theorem rread_good (w : World) (v : Value) (p : List Nat) (h : Reads w v p) (hby : ∀ b ∈ p, b < 256) (hg : ¬ BadSet p) :
    Calls Tryd.prog 33 #[v] w fun e w' => ∃ u, e = .returned (.tuple #[u, .bool true]) ∧ OwnI w' w.heap.size u (memM (numLE p) 4096) ∧ Kept (fun _ => False) w w' := by
  obtain ⟨a, c, rfl⟩ := h.formR8
  have hl : p.length ≤ 512 := by
    rcases Nat.lt_or_ge 512 p.length with hh | hh
    · exact absurd (Or.inl hh) hg
    · exact hh
  have HC := Lib.hid h.at
  have HBY : Hid (∀ k, k < p.length → p.getD k 0 < 256) := fun k hk => by
    rw [List.getD_eq_getElem?_getD, List.getElem?_eq_getElem hk]
    exact hby _ (List.getElem_mem _)
  have HBIT : Hid (∀ i k, i < p.length → k < 8 → (numLE p).testBit (8 * i + k) = decide (p.getD i 0 / 2 ^ k % 2 = 1)) := fun i k hi hk => numLE_testBit p hby i k hi hk
  have HEND := Lib.hid (memM_numLE p hby hl)
  have hcs : (¬ (0 : Int) < (p.length : Int) ∧ ¬ 0 < p.length) ∨ ((0 : Int) < (p.length : Int) ∧ 0 < p.length ∧ ∃ g off y, a = some ⟨g, off, none⟩ ∧ w.cell? ⟨g, off + (p.length - 1), none⟩ = some (.int .u8 ((y : Nat) : Int)) ∧ (((y : Nat) : Int) == 0) = false) := by
    by_cases h0 : p.length = 0
    · exact Or.inl ⟨by omega, by omega⟩
    · obtain ⟨g, off, e, hc⟩ := h.at (p.length - 1) (by omega)
      refine Or.inr ⟨by omega, by omega, g, off, p.getD (p.length - 1) 0, e, hc w (Kept.refl _ _), ?_⟩
      have : p.getD (p.length - 1) 0 ≠ 0 := fun e => hg (Or.inr ⟨by omega, e⟩)
      generalize p.getD (p.length - 1) 0 = y at this
      simpa using this
  have h5 : ¬ (512 : Int) < (p.length : Int) := by omega
  have hlb : p.length ≤ 9223372036854775807 := by omega
  have HL := Lib.hid hl
  generalize numLE p = N at HBIT HEND ⊢
  clear h hg hby hl
  rcases hcs with ⟨h6, h7⟩ | ⟨h6, h7, g, off, y, rfl, ck, hy⟩
  all_goals
    go_enter Tryd.func33, Tryd.ntmps33
    go_wp2_with fail
    try clear ck hy
    clear h6 h7 h5
    go_loopw [4, 28] (fun ov iv wr => ∃ (k : Nat), k ≤ p.length ∧ iv = .int .i64 k ∧ Hid (OwnI wr w.heap.size ov (memM N (8 * k))) ∧ Hid (Kept (fun _ => False) w wr)) (fun _ iv _ => p.length - (intOf iv).toNat)
    case atStart => exact ⟨0, Nat.zero_le _, rfl, OwnI.nil _ _, Kept.refl _ _⟩
    case round =>
      obtain ⟨k, hk, rfl, ho, hkw⟩ := hrel
      by_cases hlt : k < p.length
      · have hlt' : (k : Int) < (p.length : Int) := by omega
        obtain ⟨g2, off2, hea, hck⟩ := HC.out k hlt
        have hk512 : k < 512 := by have := HL.out; omega
        obtain ⟨b, hb⟩ : ∃ b, b = p.getD k 0 := ⟨_, rfl⟩
        have hb256 : b < 256 := by rw [hb]; exact HBY.out k hlt
        have hbit : ∀ t, t < 8 → N.testBit (8 * k + t) = decide (b / 2 ^ t % 2 = 1) := fun t ht => by rw [hb]; exact HBIT.out k t hlt ht
        rw [← hb] at hck
        have ck := hck wr hkw.out
        have HBT := Lib.hid hbit
        have HEA := Lib.hid hea
        have hbw : IntKind.i64.wrap (b : Int) = (b : Int) := IntWalk.i64_in _ (by omega)
        clear hb hbit hck
        first | subst hea | cases hea
        go_wp2_with fail
        go_loopw [4, 7, 8] (fun ov rv kv wi => ∃ t : Nat, t ≤ 8 ∧ kv = .int .i64 t ∧ rv = .int .i64 (b / 2 ^ t : Nat) ∧ Hid (OwnI wi w.heap.size ov (memM N (8 * k + t))) ∧ Hid (Kept (fun _ => False) w wi)) (fun _ _ kv _ => 8 - (intOf kv).toNat)
        case atStart => exact ⟨0, by omega, rfl, by simp, ho, hkw⟩
        case round =>
          obtain ⟨t, ht, rfl, rfl, hoi, hki⟩ := hrel
          by_cases ht8 : t < 8
          · have ht8' : (t : Int) < 8 := by omega
            obtain ⟨R, hR⟩ : ∃ R, R = b / 2 ^ t := ⟨_, rfl⟩
            obtain ⟨R2, hR2⟩ : ∃ R2, R2 = R / 2 := ⟨_, rfl⟩
            have hRN : b / 2 ^ (t + 1) = R2 := by rw [hR2, hR, Nat.div_div_eq_div_mul, ← Nat.pow_succ]
            have hRb : R ≤ 255 := by rw [hR]; exact Nat.le_trans (Nat.div_le_self _ _) (by omega)
            have hbt := HBT.out t ht8
            rw [← hR] at hbt ⊢
            have hml : (memM N (8 * k + t)).length ≤ 900000 := Nat.le_trans (memM_le _ _) (by omega)
            have HB := Lib.hid hml
            have HRN := Lib.hid hRN
            obtain ⟨⟨d1, d2⟩, d3⟩ : ((R : Int).tdiv 2 = (R2 : Int) ∧ (R : Int) / 2 = (R2 : Int)) ∧ IntKind.i64.wrap (R2 : Int) = (R2 : Int) := ⟨⟨by rw [Int.tdiv_eq_ediv_of_nonneg (by omega)]; omega, by omega⟩, IntWalk.i64_in _ (by omega)⟩
            have hr01 : R % 2 = 1 ∨ R % 2 = 0 := by omega
            clear hRN hml hR hR2
            rcases hr01 with hr | hr
            · obtain ⟨e1, e2, e3⟩ : (R : Int).tmod 2 = 1 ∧ (R : Int) % 2 = 1 ∧ ((8 * k + t : Nat) : Int) = 8 * (k : Int) + (t : Int) := ⟨by rw [Int.tmod_eq_emod_of_nonneg (by omega)]; omega, by omega, by omega⟩
              have HS : Hid (memM N (8 * k + t + 1) = memM N (8 * k + t) ++ [8 * (k : Int) + (t : Int)]) := by
                show _ = _
                rw [memM_yes (by rw [hbt, hr]; rfl), e3]
              clear hbt hr e3
              go_wp2_with (at_builtin; refine wpList_push (by rfl) _ _ rfl rfl w.heap.size _ _ wr.heap.size (8 * (k : Int) + (t : Int)) rfl rfl (hoi.out.alloc _) (by go_simp) (HB.out) (by have := hki.out.size; simp; omega) ?_)
              intro v' w3 hown' hgrow3
              have HO : Hid (OwnI w3 w.heap.size v' (memM N (8 * k + (t + 1)))) := by
                show OwnI _ _ _ _
                rw [← Nat.add_assoc, HS.out]; exact hown'
              have HK3 : Hid (Kept (fun _ => False) w w3) := (hki.out.then (Kept.alloc _ _ _)).trans hgrow3 (fun _ _ h => h) (fun i hi e => by have := hoi.out.lt i e; omega)
              clear hgrow3 hown'
              go_wp2
              go_roundw
              case rel => exact ⟨t + 1, by omega, by go_num, by rw [HRN.out], HO, HK3⟩
              case measure => simp [intOf]; omega
            · obtain ⟨e1, e2⟩ : (R : Int).tmod 2 = 0 ∧ (R : Int) % 2 = 0 := ⟨by rw [Int.tmod_eq_emod_of_nonneg (by omega)]; omega, by omega⟩
              have HS : Hid (memM N (8 * k + t + 1) = memM N (8 * k + t)) := by
                show _ = _
                rw [memM_no (by rw [hbt, hr]; rfl)]
              clear hbt hr
              go_wp2_with fail
              go_roundw
              case rel => exact ⟨t + 1, by omega, by go_num, by rw [HRN.out], by show OwnI _ _ _ _; rw [← Nat.add_assoc, HS.out]; exact hoi.out, hki⟩
              case measure => simp [intOf]; omega
          · have ht8' : ¬ (t : Int) < 8 := by omega
            have e8 : 8 * k + t = 8 * (k + 1) := by omega
            have hoi2 := hoi.out
            rw [e8] at hoi2
            have HO := Lib.hid hoi2
            clear hoi hoi2 e8
            generalize b / 2 ^ t = R
            go_wp2_with fail
            go_roundw
            case rel => exact ⟨k + 1, by omega, by go_num, HO, hki⟩
            case measure => simp [intOf]; omega
      · have hkx : k = p.length := by omega
        have ho2 := ho.out
        rw [hkx, HEND.out] at ho2
        have HO := Lib.hid ho2
        have hnl : ¬ (k : Int) < (p.length : Int) := by omega
        clear hkx ho ho2
        go_wp2_with fail
        go_ret2
        exact ⟨_, rfl, HO.out, hkw.out⟩
end Go.Proofs.YteaagllpkcpedaaDoor

namespace Go.Proofs.YteaagllpkcpedaaDoor
open Go.RowKit

theorem take_reads {W : World} {a : Option Addr} {n c : Nat} {xs : List Nat} (m : Nat) (h : Reads W (.slice a n c) xs) (hn : n = xs.length) (hm : m ≤ n) (h0 : a = none → xs = []) : Reads W (.slice a m c) (xs.take m) := by
  subst hn
  rcases h with ⟨e, rfl⟩ | ⟨g, off, cap, e, h1, h2, h3, h4⟩
  · cases e
    obtain rfl : m = 0 := by simpa using hm
    exact Or.inl ⟨rfl, rfl⟩
  · cases e
    have hl : (xs.take m).length = m := by simp; omega
    refine Or.inr ⟨g, off, c, by rw [hl], by omega, h2, h3, fun i hi => ?_⟩
    rw [hl] at hi
    rw [h4 i (by omega)]
    simp [List.getD, hi]

set_option maxRecDepth 100000 in
set_option maxHeartbeats 6400000 in
theorem reads_law (w : World) (va vb : Value) (xs : List Int) (ps : List Nat) (h : Ints w va xs) (hp : InBytes w vb ps) (hL : Libs w) :
    Calls Tryd.prog 8 #[va, vb] w fun e w' => e = .returned (.bool true) ∧ Kept (fun _ => False) w w' := by
  have HL := Lib.hid hL; have HI := Lib.hid h; have HP := Lib.hid hp.reads
  obtain ⟨pa, pc, rfl⟩ := hp.reads.formR8
  obtain ⟨m, hm⟩ : ∃ m, m = min ps.length 600 := ⟨_, rfl⟩
  obtain ⟨P, hP⟩ : ∃ P, P = ps.take m := ⟨_, rfl⟩
  have hPl : P.length = m := by rw [hP]; simp; omega
  have hr := take_reads m hp.reads rfl (by omega) (fun e => by
    rcases hp.reads with ⟨_, e2⟩ | ⟨_, _, _, e2, _⟩
    · exact e2
    · subst e; cases e2)
  rw [← hP] at hr
  have HR := Lib.hid hr
  have HBY : Hid (∀ b ∈ P, b < 256) := fun b hb => hp.byte b (by rw [hP] at hb; exact List.mem_of_mem_take hb)
  have hlb := hp.reads.len
  have hcap : (ps.length : Int) ≤ (pc : Int) := by
    rcases hp.reads with ⟨e, e2⟩ | ⟨_, _, _, e, h1, _⟩
    · have hl0 : ps.length = 0 := by rw [e2]; rfl
      omega
    · have hl0 := (Value.slice.inj e).2.2
      omega
  obtain ⟨hm1, hm2, hm3⟩ : min (ps.length : Int) 600 = (m : Int) ∧ (0 : Int) ≤ (m : Int) ∧ (m : Int) ≤ (pc : Int) := ⟨by omega, by omega, by omega⟩
  have HPL := Lib.hid hPl
  have hcs : (pa = none ∧ ps.length = 0 ∧ pc = 0) ∨ ∃ g off, pa = some ⟨g, off, none⟩ := by
    rcases hp.reads with ⟨e, e2⟩ | ⟨g, off, cap, e, _⟩
    · obtain ⟨e3, _, e5⟩ := Value.slice.inj e
      exact Or.inl ⟨e3, by rw [e2]; rfl, e5⟩
    · exact Or.inr ⟨g, off, (Value.slice.inj e).1⟩
  obtain ⟨n, hn⟩ : ∃ n, n = ps.length := ⟨_, rfl⟩
  rw [← hn] at hm hm1 hlb hcs HP ⊢
  clear hL h hp hP hPl hr hcap hn
  rcases hcs with ⟨rfl, rfl, rfl⟩ | ⟨g, off, rfl⟩
  · obtain rfl : m = 0 := by omega
    have hmin : min (0 : Int) 600 = 0 := by decide
    clear hm hm1 hm2 hm3 hlb
    go_enter Tryd.func8, Tryd.ntmps8
    go_wp2_with fail
    refine (aw_any w HL.out).mono ?_
    rintro e w1 ⟨rfl, k1⟩
    have KK := Lib.hid k1
    clear k1
    go_wp2_with fail
    refine (few_any _ _ xs (HI.out.kept KK.out (fun _ _ h => h))).mono ?_
    rintro e w2 ⟨u, rfl, hu, rfl⟩
    have hxl : (xs.take 60).length ≤ 5000 := by simp; omega
    have HX := Lib.hid hxl
    have HU := Lib.hid hu
    clear hu hxl HI
    generalize xs.take 60 = X at HU HX
    go_wp2_with fail
    refine (rof_any _ _ X HU.out HX.out).mono ?_
    rintro e w3 ⟨ua, rfl, ha, k3⟩
    rw [ofL_mask] at ha
    obtain ⟨M, hM⟩ : ∃ M, M = maskOf X := ⟨_, rfl⟩
    rw [← hM] at ha
    have SM : Hid (Small M) := hM ▸ maskOf_small _
    have HA := Lib.hid ha.ints
    replace KK := Lib.hid (KK.out.then k3)
    clear ha k3 hM HU HX
    go_wp2_with fail
    refine (of_any _ _ _ HA.out).mono ?_
    rintro e w4 ⟨v4, rfl, hs4, -, k4⟩
    rw [maskOf_memS SM.out] at hs4
    have HS4 := Lib.hid hs4
    replace HA := Lib.hid (HA.out.kept k4 (fun _ _ h => h))
    replace KK := Lib.hid (KK.out.then k4)
    clear hs4 k4
    go_wp2_with fail
    refine (bytes_any _ _ M HS4.out SM.out).mono ?_
    rintro e w5 ⟨v5, rfl, hf5, k5⟩
    have HF5 := Lib.hid hf5.reads
    replace HA := Lib.hid (HA.out.kept k5 (fun _ _ h => h))
    replace KK := Lib.hid (KK.out.then k5)
    clear hf5 k5 HS4
    go_wp2_with fail
    refine (rbytes_any _ _ M HA.out SM.out).mono ?_
    rintro e w6 ⟨v6, rfl, hf6, k6⟩
    have HF6 := Lib.hid hf6.reads
    replace HF5 := Lib.hid (HF5.out.kept k6 (fun _ _ h => h))
    replace KK := Lib.hid (KK.out.then k6)
    clear hf6 k6 HA
    go_wp2_with fail
    refine (equalb_any _ _ _ _ _ HF5.out HF6.out).mono ?_
    rintro e w7 ⟨rfl, k7⟩
    rw [show decide (bytesOf M = bytesOf M) = true from decide_eq_true rfl]
    replace KK := Lib.hid (KK.out.then k7)
    clear k7 HF5 HF6
    go_wp2_with fail
    by_cases hbad : BadSet P
    · refine (read_bad _ _ P (HR.out.kept KK.out (fun _ _ h => h)) hbad).mono ?_
      rintro e w8 ⟨rfl, k8⟩
      replace KK := Lib.hid (KK.out.then k8)
      have k9 := Kept.alloc (fun _ => False) w8 (.cells #[.int .u64 0, .slice none 0 0] 28)
      have BX : Hid (BoxAt (w8.alloc (.cells #[.int .u64 0, .slice none 0 0] 28)) w8.heap.size 0 (.slice none 0 0)) := ⟨by go_simp, by go_simp⟩
      replace KK := Lib.hid (KK.out.then k9)
      have HBAD := Lib.hid hbad
      clear k8 k9 hbad
      go_wp2_with fail
      refine (rread_bad _ _ P (HR.out.kept KK.out (fun _ _ h => h)) HBAD.out).mono ?_
      rintro e w10 ⟨rfl, k10⟩
      replace KK := Lib.hid (KK.out.then k10)
      replace BX := Lib.hid (BX.out.onC k10)
      clear k10
      obtain ⟨b0, b1⟩ := BX.out
      go_wp2_with fail
      refine (empty_any _ 0 0 0 none).mono ?_
      rintro e w11 ⟨rfl, k11⟩
      replace KK := Lib.hid (KK.out.then k11)
      clear k11 b0 b1
      go_wp2_with fail
      go_ret
      exact ⟨by simp, KK.out⟩
    · refine (read_good _ _ P (HR.out.kept KK.out (fun _ _ h => h)) HBY.out hbad).mono ?_
      rintro e w8 ⟨v8, rfl, hs8, -, k8⟩
      have hPl5 : P.length ≤ 512 := by
        rcases Nat.lt_or_ge 512 P.length with hh | hh
        · exact absurd (Or.inl hh) hbad
        · exact hh
      have SN : Hid (Small (numLE P)) := numLE_small P HBY.out hPl5
      have HBO : Hid (bytesOf (numLE P) = P) := bytesOf_numLE P HBY.out (by
        by_cases h0 : P.length = 0
        · exact Or.inl h0
        · exact Or.inr fun e => hbad (Or.inr ⟨by omega, e⟩))
      replace KK := Lib.hid (KK.out.then k8)
      have HS8 := Lib.hid hs8
      obtain ⟨lo, qa, n, c, rfl⟩ := hs8.form
      have k9 := Kept.alloc (fun _ => False) w8 (.cells #[.int .u64 lo, .slice qa n c] 28)
      have BX : Hid (BoxAt (w8.alloc (.cells #[.int .u64 lo, .slice qa n c] 28)) w8.heap.size lo (.slice qa n c)) := ⟨by go_simp, by go_simp⟩
      replace KK := Lib.hid (KK.out.then k9)
      replace HS8 := Lib.hid (HS8.out.onC k9)
      have HBAD := Lib.hid hbad
      clear k8 k9 hbad hs8 hPl5
      go_wp2_with fail
      refine (rread_good _ _ P (HR.out.kept KK.out (fun _ _ h => h)) HBY.out HBAD.out).mono ?_
      rintro e w10 ⟨u10, rfl, hu10, k10⟩
      have HU := Lib.hid hu10.ints
      replace KK := Lib.hid (KK.out.then k10)
      replace BX := Lib.hid (BX.out.onC k10)
      replace HS8 := Lib.hid (HS8.out.onC k10)
      clear k10 hu10
      obtain ⟨b0, b1⟩ := BX.out
      go_wp2_with fail
      refine (is_any _ _ _ (numLE P) HS8.out SN.out HU.out (HL.out.kept KK.out).tz).mono ?_
      rintro e w11 ⟨rfl, k11⟩
      replace KK := Lib.hid (KK.out.then k11)
      replace BX := Lib.hid (BX.out.onC k11)
      replace HS8 := Lib.hid (HS8.out.onC k11)
      clear k11 b0 b1 HU
      obtain ⟨b0, b1⟩ := BX.out
      go_wp2_with fail
      refine (bytes_any _ _ (numLE P) HS8.out SN.out).mono ?_
      rintro e w12 ⟨v12, rfl, hf, k12⟩
      have HF := Lib.hid hf.reads
      replace KK := Lib.hid (KK.out.then k12)
      clear k12 b0 b1 hf
      go_wp2_with fail
      refine (equalb_any _ _ _ _ P HF.out (HR.out.kept KK.out (fun _ _ h => h))).mono ?_
      rintro e w13 ⟨rfl, k13⟩
      rw [HBO.out, show decide (P = P) = true from decide_eq_true rfl]
      replace KK := Lib.hid (KK.out.then k13)
      clear k13
      go_wp2_with fail
      go_ret
      exact ⟨by simp, KK.out⟩
  · clear hm
    go_enter Tryd.func8, Tryd.ntmps8
    go_wp2_with fail
    refine (aw_any w HL.out).mono ?_
    rintro e w1 ⟨rfl, k1⟩
    have KK := Lib.hid k1
    clear k1
    go_wp2_with fail
    refine (few_any _ _ xs (HI.out.kept KK.out (fun _ _ h => h))).mono ?_
    rintro e w2 ⟨u, rfl, hu, rfl⟩
    have hxl : (xs.take 60).length ≤ 5000 := by simp; omega
    have HX := Lib.hid hxl
    have HU := Lib.hid hu
    clear hu hxl HI
    generalize xs.take 60 = X at HU HX
    go_wp2_with fail
    refine (rof_any _ _ X HU.out HX.out).mono ?_
    rintro e w3 ⟨ua, rfl, ha, k3⟩
    rw [ofL_mask] at ha
    obtain ⟨M, hM⟩ : ∃ M, M = maskOf X := ⟨_, rfl⟩
    rw [← hM] at ha
    have SM : Hid (Small M) := hM ▸ maskOf_small _
    have HA := Lib.hid ha.ints
    replace KK := Lib.hid (KK.out.then k3)
    clear ha k3 hM HU HX
    go_wp2_with fail
    refine (of_any _ _ _ HA.out).mono ?_
    rintro e w4 ⟨v4, rfl, hs4, -, k4⟩
    rw [maskOf_memS SM.out] at hs4
    have HS4 := Lib.hid hs4
    replace HA := Lib.hid (HA.out.kept k4 (fun _ _ h => h))
    replace KK := Lib.hid (KK.out.then k4)
    clear hs4 k4
    go_wp2_with fail
    refine (bytes_any _ _ M HS4.out SM.out).mono ?_
    rintro e w5 ⟨v5, rfl, hf5, k5⟩
    have HF5 := Lib.hid hf5.reads
    replace HA := Lib.hid (HA.out.kept k5 (fun _ _ h => h))
    replace KK := Lib.hid (KK.out.then k5)
    clear hf5 k5 HS4
    go_wp2_with fail
    refine (rbytes_any _ _ M HA.out SM.out).mono ?_
    rintro e w6 ⟨v6, rfl, hf6, k6⟩
    have HF6 := Lib.hid hf6.reads
    replace HF5 := Lib.hid (HF5.out.kept k6 (fun _ _ h => h))
    replace KK := Lib.hid (KK.out.then k6)
    clear hf6 k6 HA
    go_wp2_with fail
    refine (equalb_any _ _ _ _ _ HF5.out HF6.out).mono ?_
    rintro e w7 ⟨rfl, k7⟩
    rw [show decide (bytesOf M = bytesOf M) = true from decide_eq_true rfl]
    replace KK := Lib.hid (KK.out.then k7)
    clear k7 HF5 HF6
    go_wp2_with fail
    by_cases hbad : BadSet P
    · refine (read_bad _ _ P (HR.out.kept KK.out (fun _ _ h => h)) hbad).mono ?_
      rintro e w8 ⟨rfl, k8⟩
      replace KK := Lib.hid (KK.out.then k8)
      have k9 := Kept.alloc (fun _ => False) w8 (.cells #[.int .u64 0, .slice none 0 0] 28)
      have BX : Hid (BoxAt (w8.alloc (.cells #[.int .u64 0, .slice none 0 0] 28)) w8.heap.size 0 (.slice none 0 0)) := ⟨by go_simp, by go_simp⟩
      replace KK := Lib.hid (KK.out.then k9)
      have HBAD := Lib.hid hbad
      clear k8 k9 hbad
      go_wp2_with fail
      refine (rread_bad _ _ P (HR.out.kept KK.out (fun _ _ h => h)) HBAD.out).mono ?_
      rintro e w10 ⟨rfl, k10⟩
      replace KK := Lib.hid (KK.out.then k10)
      replace BX := Lib.hid (BX.out.onC k10)
      clear k10
      obtain ⟨b0, b1⟩ := BX.out
      go_wp2_with fail
      refine (empty_any _ 0 0 0 none).mono ?_
      rintro e w11 ⟨rfl, k11⟩
      replace KK := Lib.hid (KK.out.then k11)
      clear k11 b0 b1
      go_wp2_with fail
      go_ret
      exact ⟨by simp, KK.out⟩
    · refine (read_good _ _ P (HR.out.kept KK.out (fun _ _ h => h)) HBY.out hbad).mono ?_
      rintro e w8 ⟨v8, rfl, hs8, -, k8⟩
      have hPl5 : P.length ≤ 512 := by
        rcases Nat.lt_or_ge 512 P.length with hh | hh
        · exact absurd (Or.inl hh) hbad
        · exact hh
      have SN : Hid (Small (numLE P)) := numLE_small P HBY.out hPl5
      have HBO : Hid (bytesOf (numLE P) = P) := bytesOf_numLE P HBY.out (by
        by_cases h0 : P.length = 0
        · exact Or.inl h0
        · exact Or.inr fun e => hbad (Or.inr ⟨by omega, e⟩))
      replace KK := Lib.hid (KK.out.then k8)
      have HS8 := Lib.hid hs8
      obtain ⟨lo, qa, n, c, rfl⟩ := hs8.form
      have k9 := Kept.alloc (fun _ => False) w8 (.cells #[.int .u64 lo, .slice qa n c] 28)
      have BX : Hid (BoxAt (w8.alloc (.cells #[.int .u64 lo, .slice qa n c] 28)) w8.heap.size lo (.slice qa n c)) := ⟨by go_simp, by go_simp⟩
      replace KK := Lib.hid (KK.out.then k9)
      replace HS8 := Lib.hid (HS8.out.onC k9)
      have HBAD := Lib.hid hbad
      clear k8 k9 hbad hs8 hPl5
      go_wp2_with fail
      refine (rread_good _ _ P (HR.out.kept KK.out (fun _ _ h => h)) HBY.out HBAD.out).mono ?_
      rintro e w10 ⟨u10, rfl, hu10, k10⟩
      have HU := Lib.hid hu10.ints
      replace KK := Lib.hid (KK.out.then k10)
      replace BX := Lib.hid (BX.out.onC k10)
      replace HS8 := Lib.hid (HS8.out.onC k10)
      clear k10 hu10
      obtain ⟨b0, b1⟩ := BX.out
      go_wp2_with fail
      refine (is_any _ _ _ (numLE P) HS8.out SN.out HU.out (HL.out.kept KK.out).tz).mono ?_
      rintro e w11 ⟨rfl, k11⟩
      replace KK := Lib.hid (KK.out.then k11)
      replace BX := Lib.hid (BX.out.onC k11)
      replace HS8 := Lib.hid (HS8.out.onC k11)
      clear k11 b0 b1 HU
      obtain ⟨b0, b1⟩ := BX.out
      go_wp2_with fail
      refine (bytes_any _ _ (numLE P) HS8.out SN.out).mono ?_
      rintro e w12 ⟨v12, rfl, hf, k12⟩
      have HF := Lib.hid hf.reads
      replace KK := Lib.hid (KK.out.then k12)
      clear k12 b0 b1 hf
      go_wp2_with fail
      refine (equalb_any _ _ _ _ P HF.out (HR.out.kept KK.out (fun _ _ h => h))).mono ?_
      rintro e w13 ⟨rfl, k13⟩
      rw [HBO.out, show decide (P = P) = true from decide_eq_true rfl]
      replace KK := Lib.hid (KK.out.then k13)
      clear k13
      go_wp2_with fail
      go_ret
      exact ⟨by simp, KK.out⟩
end Go.Proofs.YteaagllpkcpedaaDoor
