/-
  The reference's Pad.
-/
import Derived.Test.YtncieckanngodaaDoorAppR
import Derived.Test.YtncieckanngodaaDoorKecS
namespace Go.Proofs.YtncieckanngodaaDoor
open Go.RowKit

/-- How many zeros a message of n bytes gets. -/
def zpad (n : Nat) : Nat := (136 - (n + 1) % 136) % 136
def pad0 (xs : List Nat) : List Nat := xs ++ [6] ++ List.replicate (zpad xs.length) 0
def padL (xs : List Nat) : List Nat := (pad0 xs).set ((pad0 xs).length - 1) ((pad0 xs).getD ((pad0 xs).length - 1) 0 ^^^ 128)
theorem pad0_length (xs : List Nat) : (pad0 xs).length = xs.length + 1 + zpad xs.length := by simp [pad0]; omega
theorem pad0_mod (xs : List Nat) : (pad0 xs).length % 136 = 0 := by rw [pad0_length]; unfold zpad; omega
theorem pad_not (n k : Nat) (h : k < zpad n) : (n + 1 + k) % 136 ≠ 0 := by unfold zpad at h; omega

/-- 'out = append(out, x)' of one byte: the run. -/
theorem append_one_run {W : World} {B : Nat} {v : Value} {xs : List Nat} (h : Fresh W B v xs) (x : Nat) (hl : xs.length ≤ 200000) (hB : B ≤ W.heap.size) :
    ∃ a c w', (Builtin.append_ #[26, 26] 26 #[v, .slice (some ⟨W.heap.size, 0, none⟩) 1 1]).run Tryd.prog (W.alloc (.cells #[.int .u8 (x : Int)] 5)) = .ok (.slice a (xs ++ [x]).length c) w' ∧ Fresh w' B (.slice a (xs ++ [x]).length c) (xs ++ [x]) ∧ Kept (blk v) W w' := by
  have ka := Kept.alloc (fun _ => False) W (.cells #[.int .u8 (x : Int)] 5)
  have h1 : Fresh (W.alloc (.cells #[.int .u8 (x : Int)] 5)) B v xs := ⟨ka.owns h.own (fun _ _ h => h), h.block⟩
  have h2 : Reads (W.alloc (.cells #[.int .u8 (x : Int)] 5)) (.slice (some ⟨W.heap.size, 0, none⟩) 1 1) [x] := Reads.ofOwns (base := 0) (owns_lit W 0 #[.int .u8 (x : Int)] [x] 1 rfl rfl (Nat.zero_le _) (by simp [maxLen]))
  obtain ⟨a, c, w', hr, hf, hk⟩ := append_reads_run h1 h2 (by simp; omega) (Nat.le_trans hB ka.size)
  exact ⟨a, c, w', hr, hf, ka.trans hk (fun _ _ h => h.elim) (fun _ _ h => h)⟩

theorem reads_set8 {w : World} {g off n c k : Nat} {xs : List Nat} (h : Reads w (.slice (some ⟨g, off, none⟩) n c) xs) (hk : k < xs.length) (y : Nat) : Reads (w.setCell ⟨g, off + k, none⟩ (.int .u8 y)) (.slice (some ⟨g, off, none⟩) n c) (xs.set k y) := by
  rcases h with ⟨h, _⟩ | ⟨g', off', cap, h, h1, h2, h3, h4⟩
  · cases h
  · cases h
    refine Or.inr ⟨g, off, _, by rw [List.length_set], by rw [List.length_set]; exact h1, h2, by simpa [World.setCell] using h3, fun i hi => ?_⟩
    rw [List.length_set] at hi
    have hik := h4 i hi
    by_cases e : i = k
    · subst e
      have h := hik
      rw [World.cell?_setCell_same _ _ _ h]
      simp [List.getD, hi]
    · have hne : (⟨g, off + k, none⟩ : Addr) ≠ ⟨g, off + i, none⟩ := by intro h; injection h with _ h _; omega
      have hs : (xs.set k y).getD i 0 = xs.getD i 0 := by simp [List.getD, Ne.symm e]
      rw [hs, World.cell?_setCell_other _ _ _ _ hne, hik]

/-- What Pad's loop keeps. -/
structure PadInv (w wr : World) (v : Value) (zs : List Nat) : Prop where
  row : Fresh wr w.heap.size v zs
  kept : Kept (fun _ => False) w wr
theorem PadInv.push {w w1 w2 : World} {v v' : Value} {zs ys : List Nat} (h : PadInv w w1 v zs) (hf : Fresh w2 w.heap.size v' ys) (hk : Kept (blk v) w1 w2) : PadInv w w2 v' ys :=
  ⟨hf, h.kept.trans hk (fun _ _ h => h) (fun i hi e => by have := h.row.block i e; omega)⟩

set_option maxRecDepth 100000 in
set_option maxHeartbeats 1600000 in
theorem pad_any (p : Value) (xs : List Nat) (w : World) (hp : Reads w p xs) (hb : ∀ x ∈ xs, x < 256) (hl : xs.length ≤ 100000) :
    Calls Tryd.prog 37 #[p] w fun e w' => ∃ a c, e = .returned (.slice a (padL xs).length c) ∧ Reads w' (.slice a (padL xs).length c) (padL xs) ∧ (∀ x ∈ padL xs, x < 256) ∧ (∀ i, (Value.slice a (padL xs).length c).ownBlock = some i → w.heap.size ≤ i) ∧ Kept (fun _ => False) w w' := by
  have hz : zpad xs.length ≤ 135 := by unfold zpad; omega
  have ka : Kept (fun _ => False) w (w.alloc (.cells #[] 5)) := Kept.alloc _ _ _
  have h0 : Fresh (w.alloc (.cells #[] 5)) w.heap.size (.slice (some ⟨w.heap.size, 0, none⟩) 0 0) [] := ⟨owns_lit w w.heap.size #[] [] 0 rfl rfl (Nat.le_refl _) (by simp), fun k hk => by simp [Value.ownBlock] at hk; omega⟩
  obtain ⟨a1, c1, w1, r1, f1, k1⟩ := append_reads_run h0 (hp.kept ka (fun _ _ h => h)) (by simp; omega) ka.size
  rw [List.nil_append] at r1 f1
  have hi1 : PadInv w w1 (.slice a1 xs.length c1) xs := ⟨f1, ka.trans k1 (fun _ _ h => h) (fun i hi e => by have := h0.block i e; omega)⟩
  obtain ⟨a2, c2, w2, r2, f2, k2⟩ := append_one_run f1 6 (by omega) hi1.kept.size
  have hi2 := hi1.push f2 k2
  obtain ⟨pa, pc, hpf⟩ := hp.form
  have hl6 : (xs ++ [6]).length = xs.length + 1 := by simp
  rw [hl6] at r2 hi2
  obtain ⟨l1, hl1⟩ : ∃ l, l = xs.length + 1 := ⟨_, rfl⟩
  rw [← hl1] at r2 hi2
  have HI2 : Hid (PadInv w w2 (.slice a2 l1 c2) (xs ++ [6] ++ List.replicate 0 0)) := Lib.hid (by simpa using hi2)
  have R1 := Lib.hid r1; have R2 := Lib.hid r2; have HB := Lib.hid hb; have HL1 := Lib.hid hl1; have hl1' : l1 ≤ 100001 := by omega
  clear ka h0 r1 f1 k1 hi1 r2 f2 k2 hi2 hl6 hp hb hl1
  subst hpf
  go_enter Tryd.func37, Tryd.ntmps37
  go_wp2_with (first | (at_builtin; refine wpList_append_run (by rfl) _ _ _ _ rfl _ _ rfl rfl R1.out ?_) | (at_builtin; refine wpList_append_run (by rfl) _ _ _ _ rfl _ _ rfl rfl R2.out ?_))
  go_loopw [3] (fun ov wr => ∃ k a c, k ≤ zpad xs.length ∧ ov = .slice a (l1 + k) c ∧ Hid (PadInv w wr (.slice a (l1 + k) c) (xs ++ [6] ++ List.replicate k 0))) (fun ov _ => zpad xs.length - (match ov with | .slice _ n _ => n - l1 | _ => 0))
  case atStart => exact ⟨0, a2, c2, Nat.zero_le _, rfl, HI2⟩
  case round =>
    obtain ⟨k, a, c, hk, rfl, hinv⟩ := hrel
    clear R1 R2 HI2
    by_cases hlt : k < zpad xs.length
    · have hne := pad_not xs.length k hlt
      rw [← HL1.out] at hne
      have hb1 : (((l1 : Int) + k) % 136 != 0) = true := by simp; omega
      have hb2 : (((l1 : Int) + k) % 136 == 0) = false := by simp; omega
      have hll : (xs ++ [6] ++ List.replicate k 0).length = l1 + k := by simp; have := HL1.out; omega
      obtain ⟨a3, c3, w3, r3, f3, k3⟩ := append_one_run hinv.out.row 0 (by rw [hll]; omega) hinv.out.kept.size
      have hi3 := hinv.out.push f3 k3
      have hs : xs ++ [6] ++ List.replicate k 0 ++ [0] = xs ++ [6] ++ List.replicate (k + 1) 0 := by rw [List.replicate_succ', List.append_assoc]
      have hl3 : (xs ++ [6] ++ List.replicate k 0 ++ [0]).length = l1 + (k + 1) := by rw [List.length_append, hll]; rfl
      rw [hl3] at r3 hi3
      rw [hs] at hi3
      have HI3 := Lib.hid hi3; have R3 := Lib.hid r3
      clear hne hll f3 k3 hi3 r3 hs hl3 hinv
      go_wp2_with (first | (at_builtin; refine wpList_append_run (by rfl) _ _ _ _ rfl _ _ rfl rfl R3.out ?_))
      go_roundw
      case rel => exact ⟨k + 1, a3, c3, by omega, rfl, HI3⟩
      case measure => simp; omega
    · obtain rfl : k = zpad xs.length := by omega
      have hrow := hinv.out.row
      have hkept := hinv.out.kept
      have hlen : (pad0 xs).length = l1 + zpad xs.length := by rw [pad0_length, ← HL1.out]
      have hmod := pad0_mod xs
      have hby : ∀ x ∈ pad0 xs, x < 256 := by
        intro x hx
        simp only [pad0, List.mem_append, List.mem_singleton] at hx
        rcases hx with (hx | hx) | hx
        · exact HB.out x hx
        · omega
        · have := List.eq_of_mem_replicate hx; omega
      have hpl : padL xs = (pad0 xs).set ((pad0 xs).length - 1) ((pad0 xs).getD ((pad0 xs).length - 1) 0 ^^^ 128) := rfl
      rw [show xs ++ [6] ++ List.replicate (zpad xs.length) 0 = pad0 xs from rfl] at hrow
      generalize pad0 xs = ys at hrow hlen hmod hby hpl
      obtain ⟨N, hN⟩ : ∃ N, N = l1 + zpad xs.length := ⟨_, rfl⟩
      rw [← hN] at hrow hlen
      rw [hlen] at hmod hpl
      have hN0 : 0 < N := by have := HL1.out; omega
      have hN1 : N ≤ 100200 := by omega
      simp only [← hN]
      have hPL := Lib.hid hpl
      obtain ⟨g, off, hag, _, hcell⟩ := hrow.reads.at (k := N - 1) (by omega)
      subst hag
      have hglt := (hrow.own.lt g rfl).2
      have hgB := hrow.block g rfl
      have hfrz : wr.frozen? ⟨g, off + (N - 1), none⟩ = false := by
        rcases hrow.own.2 with ⟨h1, _⟩ | ⟨g', cap, cur, h1, hb, hg, h5, h6, h7, h8⟩
        · cases h1
        · cases h1
          exact frozen_of_row wr _ _ cur _ hg
      obtain ⟨x, hx⟩ : ∃ x, x = ys.getD (N - 1) 0 := ⟨_, rfl⟩
      rw [← hx] at hcell
      have hxb : x < 256 := by rw [hx]; exact getD_byte hby _
      obtain ⟨y, hy⟩ : ∃ y, y = x ^^^ 128 := ⟨_, rfl⟩
      have hyb : y < 256 := by rw [hy]; exact Nat.xor_lt_two_pow (n := 8) hxb (by omega)
      have hxr := xor8 x 128 y hxb (by omega) hy
      rw [← hx, ← hy] at hpl
      have hrd := reads_set8 hrow.reads (k := N - 1) (by omega) y
      rw [← hpl] at hrd
      have hlp : (padL xs).length = N := by rw [hpl, List.length_set, hlen]
      have hbp : ∀ x ∈ padL xs, x < 256 := by
        rw [hpl]
        intro z hz
        rcases List.mem_or_eq_of_mem_set hz with h | h
        · exact hby z h
        · rw [h]; exact hyb
      have hm0 : ((N : Int) % 136 != 0) = false := by simp; omega
      have hm1 : ((N : Int) % 136 == 0) = true := by simp; omega
      have HGB := Lib.hid hgB; have HRD := Lib.hid hrd; have HLP := Lib.hid hlp; have HBP := Lib.hid hbp; have HK := Lib.hid (hkept.trans (Kept.setCell (fun i => i = g) wr ⟨g, off + (N - 1), none⟩ (.int .u8 y) rfl) (T := fun _ => False) (fun _ _ h => h) (fun i hi e => by omega))
      clear hrow hkept hlen hmod hby hpl hPL hN hx hy hrd hlp hbp hinv hk hlt
      have hxr' : bits .xor .u8 (x : Int) 128 = (y : Int) := hxr
      go_wp2_with fail
      go_ret
      exact ⟨some ⟨g, off, none⟩, c, by rw [HLP.out]; rfl, by rw [HLP.out]; exact HRD.out, HBP.out, fun i hi => by cases hi; exact HGB.out, HK.out⟩
end Go.Proofs.YtncieckanngodaaDoor
