import Derived.Test.YtjglnpijngdpkaaGreatDoorGK
import Derived.Test.YtjglnpijngdpkaaGreatDoorCore
import Derived.Lib.SlBuf
/-
  arbac/keccak: absorb, id.
-/
namespace Go.Proofs.YtjglnpijngdpkaaGreatDoor
open Go.RowKit

/-- Bytes that lie in memory, and may be written. -/
structure Blk (w : World) (g off : Nat) (xs : List Nat) : Prop where
  cell : ∀ i, i < xs.length → w.cell? ⟨g, off + i, none⟩ = some (.int .u8 (xs.getD i 0 : Nat))
  free : ∀ i, i < xs.length → w.frozen? ⟨g, off + i, none⟩ = false
theorem Blk.kr {w w' : World} {g off g' lo hi : Nat} {s : List Nat} (h : Blk w g off s) (hk : KR g' lo hi w w') (hlt : g < w.heap.size) (hd : g ≠ g' ∨ hi ≤ off ∨ off + s.length ≤ lo) : Blk w' g off s := by
  by_cases e : g = g'
  · subst e
    refine ⟨fun j hj => (hk.out _ (by omega)).trans (h.cell j hj), fun j hj => (hk.frozen _).trans (h.free j hj)⟩
  · exact ⟨fun j hj => (hk.kept.cell (p := ⟨g, off + j, none⟩) hlt e).trans (h.cell j hj), fun j hj => (hk.kept.frozen (p := ⟨g, off + j, none⟩) hlt e).trans (h.free j hj)⟩
theorem Blk.kept {S : Nat → Prop} {w w' : World} {g off : Nat} {s : List Nat} (h : Blk w g off s) (hk : Kept S w w') (hlt : g < w.heap.size) (hn : ¬ S g) : Blk w' g off s :=
  ⟨fun j hj => (hk.cell (p := ⟨g, off + j, none⟩) hlt hn).trans (h.cell j hj), fun j hj => (hk.frozen (p := ⟨g, off + j, none⟩) hlt hn).trans (h.free j hj)⟩
theorem Blk.drew {w : World} {g off : Nat} {s : List Nat} (h : Blk w g off s) : Blk w.drew g off s := ⟨h.cell, h.free⟩
theorem Blk.drewN {w : World} {g off : Nat} {s : List Nat} (h : Blk w g off s) (n : Nat) : Blk (w.drewN n) g off s := ⟨h.cell, h.free⟩
theorem Lanes.drewN {w : World} {g off : Nat} {s : List Nat} (h : Lanes w g off s) (n : Nat) : Lanes (w.drewN n) g off s := ⟨h.cell, h.free⟩

/-- How far the bytes of a block have come into the state. -/
def inB (s : List Nat) (i x : Nat) : List Nat := s.set (i / 8) (ln s (i / 8) ^^^ (x * 2 ^ (8 * (i % 8))))
def absK (s blk : List Nat) (k : Nat) : List Nat := (List.range k).foldl (fun s i => inB s i (blk.getD i 0)) s
def absS (s blk : List Nat) : List Nat := permS (absK s blk 136)
theorem absK_length (s blk : List Nat) (k : Nat) : (absK s blk k).length = s.length := by
  induction k with
  | zero => rfl
  | succ k ih => unfold absK at *; rw [List.range_succ, List.foldl_append, List.foldl_cons, List.foldl_nil, inB, List.length_set]; exact ih
theorem absK_succ (s blk : List Nat) (k : Nat) : absK s blk (k + 1) = inB (absK s blk k) k (blk.getD k 0) := by
  unfold absK
  rw [List.range_succ, List.foldl_append]; rfl
theorem shl_lt {x n : Nat} (hx : x < 256) (hn : n ≤ 56) : x * 2 ^ n < 2 ^ 64 := by
  have h1 : 2 ^ n ≤ 2 ^ 56 := Nat.pow_le_pow_right (by omega) hn
  have h2 : x * 2 ^ n ≤ 255 * 2 ^ 56 := Nat.mul_le_mul (by omega) h1
  exact Nat.lt_of_le_of_lt h2 (by decide)
theorem getD_lt256 {l : List Nat} (h : ∀ x ∈ l, x < 256) (i : Nat) : l.getD i 0 < 256 := by
  by_cases hi : i < l.length
  · rw [List.getD_eq_getElem?_getD, List.getElem?_eq_getElem hi]; exact h _ (List.getElem_mem hi)
  · rw [List.getD_eq_getElem?_getD, List.getElem?_eq_none (by omega)]; simp
theorem absK_lt {s blk : List Nat} (h : ∀ x ∈ s, x < 2 ^ 64) (hb : ∀ x ∈ blk, x < 256) (k : Nat) : ∀ x ∈ absK s blk k, x < 2 ^ 64 := by
  induction k with
  | zero => exact h
  | succ k ih => rw [absK_succ]; exact set_lt ih _ _ (Nat.xor_lt_two_pow (ln_lt ih _) (shl_lt (getD_lt256 hb k) (by omega)))
theorem absS_ok {s blk : List Nat} (h : ∀ x ∈ s, x < 2 ^ 64) (hs : s.length = 25) (hb : ∀ x ∈ blk, x < 256) : (absS s blk).length = 25 ∧ ∀ x ∈ absS s blk, x < 2 ^ 64 :=
  permS_lt (absK_lt h hb 136) ((absK_length _ _ _).trans hs)
theorem shl_walk (x n : Nat) (hx : x < 256) (hn : n ≤ 56) : IntKind.u64.wrap ((x : Int) * 2 ^ n) = ((x * 2 ^ n : Nat) : Int) := by
  rw [IntKind.wrap_u64, ← Nat.mod_eq_of_lt (shl_lt hx hn), Int.natCast_emod, Int.natCast_mul, Int.natCast_pow]
  simp

set_option maxRecDepth 100000 in
set_option maxHeartbeats 1600000 in
theorem absorb_any (w : World) (g off gb ob : Nat) (s blk : List Nat) (h25 : s.length = 25) (hb : ∀ x ∈ s, x < 2 ^ 64) (h : Lanes w g off s) (hg : g < w.heap.size) (hT : KTab w) (hn : NoTab g)
    (hbl : blk.length = 136) (hb8 : ∀ x ∈ blk, x < 256) (hB : Blk w gb ob blk) (hgb : gb < w.heap.size) (hd : gb ≠ g ∨ off + 25 ≤ ob ∨ ob + 136 ≤ off) :
    Calls Tryz.prog 96 #[.pointer (some ⟨g, off, none⟩), .pointer (some ⟨gb, ob, none⟩)] w fun e w' => e = .returned (.tuple #[]) ∧ Lanes w' g off (absS s blk) ∧ KR g off (off + 25) w w' := by
  have HH := Lib.hid h; have HT := Lib.hid hT; have HN := Lib.hid hn; have HB := Lib.hid hB; have HB8 := Lib.hid hb8; have HSB := Lib.hid hb
  have HDJ := Lib.hid hd; have HBL := Lib.hid hbl
  have h25' := Lib.hid h25
  clear h hb hT hn hB hb8 hd hbl h25
  go_enter Tryz.func96, Tryz.ntmps96
  go_wp2_with fail
  go_loopw [4, 5, 7] (fun _ _ i W => ∃ k : Nat, k ≤ 136 ∧ i = .int .i64 k ∧ Lanes W g off (absK s blk k) ∧ KR g off (off + 25) w W) (fun _ _ i _ => 136 - (intOf i).toNat)
  case atStart => exact ⟨0, by omega, rfl, HH.out, KR.refl _ _ _ _⟩
  case round =>
    obtain ⟨k, hk, rfl, hm, hkw⟩ := hrel
    by_cases hlt : k < 136
    · have hb1 := HB.out.kr hkw hgb (by have := HDJ.out; have := HBL.out; omega)
      have e1 := hb1.cell k (by rw [HBL.out]; exact hlt)
      have hx := getD_lt256 HB8.out k
      have hsucc := absK_succ s blk k
      have hml := (absK_length s blk k).trans h25'.out
      have hmlt := absK_lt HSB.out HB8.out k
      obtain ⟨x, hxe⟩ : ∃ x, x = blk.getD k 0 := ⟨_, rfl⟩
      rw [← hxe] at e1 hx hsucc
      obtain ⟨m, hme⟩ : ∃ m, m = absK s blk k := ⟨_, rfl⟩
      rw [← hme] at hsucc hml hmlt hm
      obtain ⟨q, hq⟩ : ∃ q, q = k / 8 := ⟨_, rfl⟩
      obtain ⟨r, hr⟩ : ∃ r, r = k % 8 := ⟨_, rfl⟩
      obtain ⟨n, hnn⟩ : ∃ n, n = 8 * r := ⟨_, rfl⟩
      obtain ⟨z, hz⟩ : ∃ z, z = x * 2 ^ n := ⟨_, rfl⟩
      obtain ⟨v, hv⟩ : ∃ v, v = ln m q := ⟨_, rfl⟩
      obtain ⟨y, hy⟩ : ∃ y, y = v ^^^ z := ⟨_, rfl⟩
      have hvl : v < 2 ^ 64 := by rw [hv]; exact ln_lt hmlt q
      have hzl : z < 2 ^ 64 := by rw [hz]; exact shl_lt hx (by omega)
      have xx := xor64 v z y hvl hzl hy
      have sw : IntKind.u64.wrap ((x : Int) * 2 ^ n) = (z : Int) := by rw [hz]; exact shl_walk x n hx (by omega)
      have q1 : (k : Int).tdiv 8 = (q : Int) := by rw [Int.tdiv_eq_ediv_of_nonneg (by omega)]; omega
      have q2 : (k : Int) / 8 = (q : Int) := by omega
      have r1 : (k : Int).tmod 8 = (r : Int) := by rw [Int.tmod_eq_emod_of_nonneg (by omega)]; omega
      have r2 : (k : Int) % 8 = (r : Int) := by omega
      have n1 : IntKind.i64.wrap ((r : Int) * 8) = (n : Int) := by rw [IntWalk.i64_in _ (by omega)]; omega
      have w1 : IntKind.u64.wrap (x : Int) = (x : Int) := IntWalk.u64_in _ (by omega)
      have w2 : IntKind.i64.wrap (q : Int) = (q : Int) := IntWalk.i64_in _ (by omega)
      have m0 : (k : Int) < 136 := by omega
      have m1 : (0 : Int) ≤ k := by omega
      have m2 : (0 : Int) ≤ q := by omega
      have m3 : (q : Int) < 25 := by omega
      have m4 : (0 : Int) ≤ n := by omega
      have m5 : n < 64 := by omega
      have hset := (hm.drewN 0).set q y (by omega)
      have hfin : m.set q y = absK s blk (k + 1) := by rw [hsucc, inB, ← hq, ← hr, ← hnn, ← hz, ← hv, ← hy]
      rw [hfin] at hset
      have c1 := hm.cell q (by omega)
      have f1 := hm.free q (by omega)
      rw [show m.getD q 0 = v from hv.symm] at c1
      have HF := Lib.hid hfin; have HM := Lib.hid hm; have HK := Lib.hid hkw
      have HQ := Lib.hid hq
      clear hset hfin hsucc hm hkw hb1 hxe hme hq hr hnn hz hv hy hmlt
      go_wp2_with fail
      go_quiet (fail)
      have HM2 := Lib.hid (HM.out.drewN nq)
      have HK2 := Lib.hid (HK.out.drewN nq)
      replace c1 : (wr.drewN nq).cell? _ = _ := c1
      replace f1 : (wr.drewN nq).frozen? _ = _ := f1
      clear HM HK e1
      generalize wr.drewN nq = wd at *
      have hset := HM2.out.drew.set q y (by rw [hml]; omega)
      rw [HF.out] at hset
      have hkr := HK2.out.drew.trans (KR.setCell g (off + q) off (off + 25) wd.drew (.int .u64 (y : Int)) (by omega)) (Nat.le_refl _) (Nat.le_refl _) (Nat.le_refl _) (Nat.le_refl _)
      have HSET := Lib.hid hset; have HKR := Lib.hid hkr
      clear hset hkr HM2 HK2
      go_wp2_with fail
      go_still_tail 15, (by kernel_rfl)
      change wpList _ _ _ _ _ wd.drew
      replace c1 : wd.drew.cell? _ = _ := c1
      replace f1 : wd.drew.frozen? _ = _ := f1
      generalize wd.drew = we at *
      go_wp2_with fail
      go_roundw
      case rel =>
        first
          | exact ⟨k + 1, by omega, by go_num, HSET.out, HKR.out⟩
          | ((repeat apply Exists.intro); exact ⟨⟨k + 1, by omega, by go_num, HSET.out, HKR.out⟩, rfl⟩)
      case measure => simp [intOf]; omega
    · obtain rfl : k = 136 := by omega
      have HM := Lib.hid hm; have HK := Lib.hid hkw
      clear hm hkw
      have hgg := Nat.lt_of_lt_of_le hg HK.out.kept.size
      have hml := (absK_length s blk 136).trans h25'.out
      have HML := Lib.hid (absK_lt HSB.out HB8.out 136)
      have HT1 := Lib.hid (HT.out.keptNe HK.out.kept HN.out)
      go_wp2_with fail
      refine (permute_any wr g off _ hml HML.out HM.out hgg HT1.out HN.out).mono ?_
      rintro e w1 ⟨rfl, hp, kp⟩
      have HP := Lib.hid hp
      have HKP := Lib.hid (HK.out.trans kp (Nat.le_refl _) (Nat.le_refl _) (Nat.le_refl _) (Nat.le_refl _))
      clear hp kp
      go_wp2_with fail
      go_end0
      exact ⟨rfl, HP.out, HKP.out⟩
end Go.Proofs.YtjglnpijngdpkaaGreatDoor
/-
  arbac/keccak: the digest's bytes.
-/
namespace Go.Proofs.YtjglnpijngdpkaaGreatDoor
open Go.RowKit

def arr8 (s : List Nat) : List Value := s.map fun n : Nat => Value.int .u8 (n : Int)
theorem arr8_length (s : List Nat) : (arr8 s).length = s.length := by simp [arr8]
theorem arr8_get (s : List Nat) (i : Nat) (hi : i < s.length) : (arr8 s)[i]? = some (.int .u8 (s.getD i 0 : Nat)) := by simp [arr8, List.getD, hi]
theorem arr8_one (s : List Nat) : ∀ v ∈ arr8 s, v.oneCell' = true := by
  intro v hv
  simp only [arr8, List.mem_map] at hv
  obtain ⟨n, _, rfl⟩ := hv
  rfl
theorem blk_new (w : World) (cs : Array Value) (T : TypeId) (s : List Nat) (hcs : cs.toList = arr8 s) : Blk (w.alloc (.cells cs T)) w.heap.size 0 s := by
  refine ⟨fun i hi => ?_, fun i _ => World.frozen?_alloc_new _ _ _ _⟩
  rw [Nat.zero_add, cell_of_row _ w.heap.size i cs T (0, 0) (heap_alloc_new w _), ← Array.getElem?_toList, hcs]
  simp [arr8, List.getD, hi]
theorem Blk.set {w : World} {g off : Nat} {s : List Nat} (h : Blk w g off s) (i y : Nat) (hi : i < s.length) : Blk (w.setCell ⟨g, off + i, none⟩ (.int .u8 (y : Int))) g off (s.set i y) := by
  refine ⟨fun j hj => ?_, fun j hj => ?_⟩
  · rw [List.length_set] at hj
    by_cases e : i = j
    · subst e
      rw [World.cell?_setCell_same _ _ _ (h.cell i hi)]
      simp [List.getD, hi]
    · rw [World.cell?_setCell_other _ _ _ _ (fun e2 => by injection e2; omega), h.cell j hj]
      simp [List.getD, e]
  · rw [World.frozen?_setCell]; rw [List.length_set] at hj; exact h.free j hj
theorem Blk.setCells {w : World} {g off : Nat} {s t : List Nat} (h : Blk w g off s) (hl : s.length = t.length) : Blk (w.setCells g off (arr8 t)) g off t := by
  refine ⟨fun i hi => ?_, fun i hi => ?_⟩
  · have := World.cell?_setCells_in g (arr8 t) off w (fun j hj => by rw [h.cell j (by rw [arr8_length] at hj; omega)]; rfl) i (by rw [arr8_length]; exact hi)
    rw [this]
    simp [arr8, List.getD, hi]
  · rw [World.frozen?_setCells]; exact h.free i (by omega)
theorem Blk.get {w : World} {g off : Nat} {s : List Nat} (h : Blk w g off s) : ∀ j v, (arr8 s)[j]? = some v → w.cell? ⟨g, off + j, none⟩ = some v := by
  intro j v hv
  have hj : j < s.length := by
    have := (List.getElem?_eq_some_iff.1 hv).1
    rwa [arr8_length] at this
  rw [h.cell j hj, ← hv, arr8_get s j hj]

/-- The first 32 bytes of a state. -/
def dig (s : List Nat) : List Nat := (List.range 32).map fun i => ln s (i / 8) / 2 ^ (8 * (i % 8)) % 256
theorem dig_length (s : List Nat) : (dig s).length = 32 := by simp [dig]
theorem dig_lt (s : List Nat) : ∀ x ∈ dig s, x < 256 := by
  intro x hx
  simp only [dig, List.mem_map] at hx
  obtain ⟨i, _, rfl⟩ := hx
  exact Nat.mod_lt _ (by decide)
theorem dig_at (s : List Nat) (i : Nat) (hi : i < 32) : (dig s).getD i 0 = ln s (i / 8) / 2 ^ (8 * (i % 8)) % 256 := by simp [dig, List.getD, hi]
theorem byte_shift8 (y S b : Nat) (h : b = y / 2 ^ S % 256) : IntKind.u8.wrap ((y : Int) / 2 ^ S) = (b : Int) := by
  have h2 : (y : Int) / 2 ^ S = ((y / 2 ^ S : Nat) : Int) := by rw [Int.natCast_ediv, Int.natCast_pow]; rfl
  rw [h2, IntKind.wrap_u8, h, Int.natCast_emod]; rfl
theorem size32 : (Tryz.prog.info? 59).map (·.size) = some 32 := by kernel_rfl

set_option maxRecDepth 100000 in
set_option maxHeartbeats 1600000 in
theorem id_any (w : World) (g off : Nat) (s : List Nat) (h25 : s.length = 25) (h : Lanes w g off s) (hg : g < w.heap.size) :
    Calls Tryz.prog 97 #[.pointer (some ⟨g, off, none⟩)] w fun e w' => e = .returned (.agg (arr8 (dig s)).toArray) ∧ Kept (fun _ => False) w w' := by
  have HH := Lib.hid h; have H25 := Lib.hid h25
  clear h h25
  go_enter Tryz.func97, Tryz.ntmps97
  go_wp2_with fail
  go_loopw [4, 5] (fun _ i W => ∃ k : Nat, k ≤ 32 ∧ i = .int .i64 k ∧ Blk W (w.heap.size + 1) 0 ((dig s).take k ++ List.replicate (32 - k) 0) ∧ Blk W w.heap.size 0 (List.replicate 32 0) ∧ Kept (fun _ => False) w W ∧ w.heap.size + 1 < W.heap.size) (fun _ i _ => 32 - (intOf i).toNat)
  case atStart =>
    refine ⟨0, by omega, rfl, ?_, ?_, (Kept.alloc _ _ _).then (Kept.alloc _ _ _), by simp⟩
    · have := blk_new (w.alloc (.cells (arr8 (List.replicate 32 0)).toArray 59)) (arr8 (List.replicate 32 0)).toArray 59 (List.replicate 32 0) rfl
      rw [show (w.alloc (.cells (arr8 (List.replicate 32 0)).toArray 59)).heap.size = w.heap.size + 1 by simp] at this
      exact this
    · exact (blk_new w (arr8 (List.replicate 32 0)).toArray 59 (List.replicate 32 0) rfl).kept (Kept.alloc (fun _ => False) _ _) (by simp) (fun h => h)
  case round =>
    obtain ⟨k, hk, rfl, hm, hz, hkw, hsz⟩ := hrel
    have hlen : ((dig s).take k ++ List.replicate (32 - k) 0).length = 32 := by simp [dig_length]; omega
    by_cases hlt : k < 32
    · have hs1 := HH.out.kept hkw hg (fun h => h)
      obtain ⟨q, hq⟩ : ∃ q, q = k / 8 := ⟨_, rfl⟩
      obtain ⟨r, hr⟩ : ∃ r, r = k % 8 := ⟨_, rfl⟩
      obtain ⟨n, hnn⟩ : ∃ n, n = 8 * r := ⟨_, rfl⟩
      have c1 := hs1.cell q (by have := H25.out; omega)
      obtain ⟨v, hv⟩ : ∃ v, v = s.getD q 0 := ⟨_, rfl⟩
      rw [← hv] at c1
      obtain ⟨b, hb⟩ : ∃ b, b = v / 2 ^ n % 256 := ⟨_, rfl⟩
      have hdk : (dig s).getD k 0 = b := by rw [dig_at s k hlt, hb, hv, hnn, hr, hq]; rfl
      have d := hm.cell k (by omega)
      have f := hm.free k (by omega)
      have hset := hm.set k b (by omega)
      rw [Nat.zero_add] at d f hset
      rw [← hdk, fill_set (dig s) 32 k (dig_length s) hlt] at hset
      rw [hdk] at hset
      generalize ((dig s).take k ++ List.replicate (32 - k) 0).getD k 0 = old at d
      have kr := Kept.setCell (fun k => k = w.heap.size + 1) wr ⟨w.heap.size + 1, k, none⟩ (.int .u8 (b : Int)) rfl
      have Z2 := hz.kept kr (by omega) (by omega)
      have K2 := hkw.trans kr (T := fun _ => False) (fun _ _ h => h) (fun i hi e => by omega)
      have hsz2 := Nat.lt_of_lt_of_le hsz kr.size
      have bs := byte_shift8 v n b hb
      have q1 : (k : Int).tdiv 8 = (q : Int) := by rw [Int.tdiv_eq_ediv_of_nonneg (by omega)]; omega
      have q2 : (k : Int) / 8 = (q : Int) := by omega
      have r1 : (k : Int).tmod 8 = (r : Int) := by rw [Int.tmod_eq_emod_of_nonneg (by omega)]; omega
      have r2 : (k : Int) % 8 = (r : Int) := by omega
      have n1 : IntKind.i64.wrap ((r : Int) * 8) = (n : Int) := by rw [IntWalk.i64_in _ (by omega)]; omega
      have w2 : IntKind.i64.wrap (q : Int) = (q : Int) := IntWalk.i64_in _ (by omega)
      have m0 : (k : Int) < 32 := by omega
      have m1 : (0 : Int) ≤ k := by omega
      have m2 : (0 : Int) ≤ q := by omega
      have m3 : (q : Int) < 25 := by omega
      have m4 : (0 : Int) ≤ n := by omega
      have m5 : n < 64 := by omega
      have HS := Lib.hid hset; have HZ2 := Lib.hid Z2; have HK2 := Lib.hid K2
      clear hset Z2 K2 kr hm hz hkw hs1 hdk hb hv hlen hnn hr hq
      go_wp2_with fail
      go_roundw
      case rel =>
        first
          | exact ⟨k + 1, by omega, by go_num, HS.out, HZ2.out, HK2.out, hsz2⟩
          | ((repeat apply Exists.intro); exact ⟨⟨k + 1, by omega, by go_num, HS.out, HZ2.out, HK2.out, hsz2⟩, rfl⟩)
      case measure => simp [intOf]; omega
    · obtain rfl : k = 32 := by omega
      have hfull : (dig s).take 32 ++ List.replicate (32 - 32) 0 = dig s := by simp [List.take_of_length_le, dig_length]
      rw [hfull] at hm
      have hml := dig_length s
      have hg1 := hm.get
      have z1 : ∀ j, j < (arr8 (dig s)).length → (wr.cell? ⟨w.heap.size, 0 + j, none⟩).isSome = true := fun j hj => by
        rw [arr8_length, hml] at hj; rw [hz.cell j (by simpa using hj)]; rfl
      have z2 : ∀ j, j < (arr8 (dig s)).length → wr.frozen? ⟨w.heap.size, 0 + j, none⟩ = false := fun j hj => by
        rw [arr8_length, hml] at hj; exact hz.free j (by simpa using hj)
      have hsz25 : (Tryz.prog.info? 59).map (·.size) = some (arr8 (dig s)).length := by rw [arr8_length, hml]; exact size32
      have hfin := (hz.setCells (t := dig s) (by simp [hml])).get
      have kr := Kept.setCells w.heap.size (arr8 (dig s)) 0 wr
      have K2 := hkw.trans kr (T := fun _ => False) (fun _ _ h => h) (fun i hi e => by omega)
      have G1 := Lib.hid hg1; have Z1 := Lib.hid z1; have Z2 := Lib.hid z2; have HF := Lib.hid hfin; have HK2 := Lib.hid K2; have HS25 := Lib.hid hsz25
      have hone := arr8_one (dig s)
      have HO := Lib.hid hone
      clear hg1 z1 z2 hfin K2 kr hm hz hkw hfull hml hone hsz25 hlen
      obtain ⟨cs, hcs⟩ : ∃ cs, cs = arr8 (dig s) := ⟨_, rfl⟩
      rw [← hcs] at G1 Z1 Z2 HF HK2 HS25 HO
      have HCS := Lib.hid hcs; clear hcs
      go_wp2_with (first | (refine wpList_load_at rfl 59 _ rfl (w.heap.size + 1) 0 rfl cs _ G1.out Tryz.underlying59 rfl HS25.out ?_) | (refine wpList_store_at rfl 59 _ _ rfl w.heap.size 0 cs rfl rfl Z1.out Z2.out HO.out HS25.out ?_))
      refine bodyPost_ret_by (v := .agg cs.toArray) ?_ ?_ ?_
      · exact results_cell_at Tryz.results97 _ _ w.heap.size cs _ rfl HF.out Tryz.underlying59 rfl HS25.out
      · rfl
      · exact ⟨by rw [HCS.out], HK2.out⟩
end Go.Proofs.YtjglnpijngdpkaaGreatDoor
/-
  arbac/keccak: a Hash in memory; pending, Write.
-/
namespace Go.Proofs.YtjglnpijngdpkaaGreatDoor
open Go.RowKit

/-- A hash takes one byte: the state, and the bytes that are not absorbed yet. -/
def feed (a : List Nat × List Nat) (x : Nat) : List Nat × List Nat := if a.2.length = 135 then (absS a.1 (a.2 ++ [x]), []) else (a.1, a.2 ++ [x])
def hsh (xs : List Nat) : List Nat × List Nat := xs.foldl feed (List.replicate 25 0, [])
/-- The last block. -/
def padB (b : List Nat) : List Nat := ((b ++ List.replicate (136 - b.length) 0).set b.length 6).set 135 (((b ++ List.replicate (136 - b.length) 0).set b.length 6).getD 135 0 ^^^ 128)
def digS (xs : List Nat) : List Nat := dig (absS (hsh xs).1 (padB (hsh xs).2))

theorem feed_few (c : List Nat) : ∀ (s b : List Nat), b.length + c.length < 136 → c.foldl feed (s, b) = (s, b ++ c) := by
  induction c with
  | nil => intro s b _; simp
  | cons x c ih =>
    intro s b h
    simp at h
    rw [List.foldl_cons, show feed (s, b) x = (s, b ++ [x]) by unfold feed; rw [if_neg (by show ¬ b.length = 135; omega)], ih _ _ (by simp; omega)]
    simp
theorem feed_full (c : List Nat) (s b : List Nat) (h : b.length + c.length = 136) (hb : b.length < 136) : c.foldl feed (s, b) = (absS s (b ++ c), []) := by
  have hc : c ≠ [] := by intro e; subst e; simp at h; omega
  obtain ⟨d, x, rfl⟩ : ∃ d x, c = d ++ [x] := ⟨c.dropLast, c.getLast hc, (List.dropLast_concat_getLast hc).symm⟩
  simp at h
  rw [List.foldl_append, feed_few d s b (by omega), List.foldl_cons, List.foldl_nil]
  unfold feed
  rw [if_pos (by show (b ++ d).length = 135; simp; omega)]
  simp
theorem hsh_append (a b : List Nat) : hsh (a ++ b) = b.foldl feed (hsh a) := by simp [hsh]
structure HOk (a : List Nat × List Nat) (n : Nat) : Prop where
  l1 : a.1.length = 25
  b1 : ∀ x ∈ a.1, x < 2 ^ 64
  l2 : a.2.length = n % 136
  b2 : ∀ x ∈ a.2, x < 256
theorem HOk.feed {a : List Nat × List Nat} {n x : Nat} (h : HOk a n) (hx : x < 256) : HOk (feed a x) (n + 1) := by
  have h2 := h.l2
  have hb : ∀ y ∈ a.2 ++ [x], y < 256 := by intro y hy; rcases List.mem_append.1 hy with h' | h'; exact h.b2 y h'; simp at h'; omega
  unfold Go.Proofs.YtjglnpijngdpkaaGreatDoor.feed
  by_cases e : a.2.length = 135
  · rw [if_pos e]
    have hs := absS_ok h.b1 h.l1 hb
    exact ⟨hs.1, hs.2, by simp; omega, by simp⟩
  · rw [if_neg e]
    exact ⟨h.l1, h.b1, by simp; omega, hb⟩
theorem foldl_ok : ∀ (c : List Nat) (a : List Nat × List Nat) (n : Nat), HOk a n → (∀ x ∈ c, x < 256) → HOk (c.foldl Go.Proofs.YtjglnpijngdpkaaGreatDoor.feed a) (n + c.length)
  | [], a, n, h, _ => h
  | x :: c, a, n, h, hc => by
    have := foldl_ok c _ (n + 1) (h.feed (hc x (by simp))) (fun y hy => hc y (by simp [hy]))
    rw [show n + (x :: c).length = n + 1 + c.length by simp; omega]
    exact this
theorem hsh_ok {xs : List Nat} (h : ∀ x ∈ xs, x < 256) : HOk (hsh xs) xs.length := by
  have := foldl_ok xs (List.replicate 25 0, []) 0 ⟨by simp, by intro x hx; have := List.eq_of_mem_replicate hx; omega, rfl, by simp⟩ h
  rwa [Nat.zero_add] at this

/-- A hash of these bytes lies there. -/
structure HashAt (w : World) (g off : Nat) (xs : List Nat) : Prop where
  st : Lanes w g off (hsh xs).1
  blk : ∃ blk, blk.length = 136 ∧ (∀ x ∈ blk, x < 256) ∧ Blk w g (off + 25) blk ∧ blk.take (hsh xs).2.length = (hsh xs).2
  len : w.cell? ⟨g, off + 161, none⟩ = some (.int .u64 (xs.length : Nat))
  free : w.frozen? ⟨g, off + 161, none⟩ = false
  byte : ∀ x ∈ xs, x < 256
theorem HashAt.kept {S : Nat → Prop} {w w' : World} {g off : Nat} {xs : List Nat} (h : HashAt w g off xs) (hk : Kept S w w') (hlt : g < w.heap.size) (hn : ¬ S g) : HashAt w' g off xs := by
  obtain ⟨blk, h1, h2, h3, h4⟩ := h.blk
  exact ⟨h.st.kept hk hlt hn, ⟨blk, h1, h2, h3.kept hk hlt hn, h4⟩, (hk.cell (p := ⟨g, off + 161, none⟩) hlt hn).trans h.len, (hk.frozen (p := ⟨g, off + 161, none⟩) hlt hn).trans h.free, h.byte⟩

set_option maxRecDepth 100000 in
set_option maxHeartbeats 400000 in
theorem pending_any (w : World) (g off n : Nat) (h : w.cell? ⟨g, off + 161, none⟩ = some (.int .u64 (n : Nat))) (hn : n < 2 ^ 62) :
    Calls Tryz.prog 95 #[.pointer (some ⟨g, off, none⟩)] w fun e w' => e = .returned (.int .i64 (n % 136 : Nat)) ∧ w = w' := by
  obtain ⟨m, hm⟩ : ∃ m, m = n % 136 := ⟨_, rfl⟩
  have m1 : (n : Int).tmod 136 = (m : Int) := by rw [Int.tmod_eq_emod_of_nonneg (by omega)]; omega
  have m2 : (n : Int) % 136 = (m : Int) := by omega
  have w1 : IntKind.i64.wrap (m : Int) = (m : Int) := IntWalk.i64_in _ (by omega)
  have w2 : IntKind.u64.wrap (m : Int) = (m : Int) := IntWalk.u64_in _ (by omega)
  rw [← hm]
  clear hm
  go_enter Tryz.func95, Tryz.ntmps95
  go_wp2_with fail
  go_ret
  exact ⟨rfl, rfl⟩

theorem Blk.splice {w : World} {g off a : Nat} {blk c : List Nat} (h : Blk w g off blk) (ha : a + c.length ≤ blk.length) : Blk (w.setCells g (off + a) (arr8 c)) g off (blk.take a ++ c ++ blk.drop (a + c.length)) := by
  have hl : (blk.take a ++ c ++ blk.drop (a + c.length)).length = blk.length := by simp; omega
  refine ⟨fun i hi => ?_, fun i hi => ?_⟩
  · rw [hl] at hi
    by_cases h1 : a ≤ i ∧ i < a + c.length
    · have := World.cell?_setCells_in g (arr8 c) (off + a) w (fun j hj => by rw [Nat.add_assoc, h.cell (a + j) (by rw [arr8_length] at hj; omega)]; rfl) (i - a) (by rw [arr8_length]; omega)
      rw [show off + a + (i - a) = off + i by omega] at this
      rw [this, List.getD_eq_getElem?_getD, List.append_assoc, List.getElem?_append_right (by simp; omega), List.getElem?_append_left (by simp; omega)]
      simp [arr8, show min a blk.length = a by omega, show i - a < c.length by omega]
    · have e : (blk.take a ++ c ++ blk.drop (a + c.length)).getD i 0 = blk.getD i 0 := ?_
      · rw [World.cell?_setCells_out g (arr8 c) (off + a) w _ (fun _ _ => by rw [arr8_length]; show off + i < off + a ∨ off + a + c.length ≤ off + i; omega), h.cell i hi, e]
      rw [List.getD_eq_getElem?_getD, List.getD_eq_getElem?_getD]
      by_cases h2 : i < a
      · rw [List.append_assoc, List.getElem?_append_left (by simp; omega), List.getElem?_take_of_lt h2]
      · rw [List.getElem?_append_right (by simp; omega), List.getElem?_drop]
        congr 2
        simp
        omega
  · rw [World.frozen?_setCells]; rw [hl] at hi; exact h.free i hi
theorem run_copy8 {P : Program} (w : World) (dT sT ty elem : TypeId) (g off dLen dCap sLen sCap gs os : Nat) (blk c ys : List Nat) (hu : P.underlying dT = some (.slice elem)) (hs : (P.info? elem).map (·.size) = some 1)
    (hn : c.length = Nat.min sLen dLen) (hc : ∀ j, j < c.length → j < ys.length ∧ c.getD j 0 = ys.getD j 0) (hsrc : ∀ j, j < ys.length → w.cell? ⟨gs, os + j, none⟩ = some (.int .u8 (ys.getD j 0 : Nat))) (o a : Nat) (ho : off = o + a) (hB : Blk w g o blk) (hfit : a + c.length ≤ blk.length) :
    (Builtin.copy_ #[dT, sT] ty #[.slice (some ⟨g, off, none⟩) dLen dCap, .slice (some ⟨gs, os, none⟩) sLen sCap]).run P w = .ok (.int .i64 (c.length : Nat)) (w.setCells g off (arr8 c)) := by
  subst ho
  have := run_copy_cells (P := P) w dT sT ty elem g (o + a) dLen dCap ⟨gs, os, none⟩ sLen sCap (arr8 c) hu hs (by rw [arr8_length]; exact hn)
    (fun j v hv => by
      have hj : j < c.length := by
        have := (List.getElem?_eq_some_iff.1 hv).1
        rwa [arr8_length] at this
      rw [arr8_get c j hj] at hv
      have hadd : (⟨gs, os, none⟩ : Addr).add j = ⟨gs, os + j, none⟩ := by unfold Addr.add; split <;> simp_all
      rw [hadd, hsrc j (hc j hj).1, ← (hc j hj).2, hv])
    (fun j hj => by rw [arr8_length] at hj; rw [Nat.add_assoc, hB.cell (a + j) (by omega)]; rfl)
    (fun j hj => by rw [arr8_length] at hj; rw [Nat.add_assoc]; exact hB.free (a + j) (by omega)) (arr8_one c)
  rw [arr8_length] at this
  exact this
end Go.Proofs.YtjglnpijngdpkaaGreatDoor
/-
  arbac/keccak: Write.
-/
namespace Go.Proofs.YtjglnpijngdpkaaGreatDoor
open Go.RowKit

def slLen : Value → Nat
  | .slice _ n _ => n
  | _ => 0

set_option maxRecDepth 100000 in
set_option maxHeartbeats 1600000 in
theorem write_any (w : World) (g off : Nat) (xs : List Nat) (p : Value) (ys : List Nat) (hh : HashAt w g off xs) (hg : g < w.heap.size) (hT : KTab w) (hn : NoTab g) (hp : Reads w p ys) (hy : ∀ x ∈ ys, x < 256)
    (hne : ∀ k, p.ownBlock = some k → k ≠ g) (hle : xs.length + ys.length < 2 ^ 62) :
    Calls Tryz.prog 74 #[.pointer (some ⟨g, off, none⟩), p] w fun e w' => e = .returned (.tuple #[]) ∧ HashAt w' g off (xs ++ ys) ∧ KR g off (off + 162) w w' := by
  have HH := Lib.hid hh; have HT := Lib.hid hT; have HN := Lib.hid hn; have HP := Lib.hid hp; have HY := Lib.hid hy; have HNE := Lib.hid hne
  obtain ⟨a, c, hf⟩ := hp.form
  clear hh hT hn hp hy hne
  subst hf
  go_enter Tryz.func74, Tryz.ntmps74
  go_wp2_with fail
  go_loopw [1, 4] (fun pv _ W => ∃ k : Nat, k ≤ ys.length ∧ Reads W pv (ys.drop k) ∧ (∀ b, pv.ownBlock = some b → b ≠ g) ∧ HashAt W g off (xs ++ ys.take k) ∧ KR g off (off + 162) w W) (fun pv _ _ => slLen pv)
  case atStart => exact ⟨0, by omega, HP.out, HNE.out, by simpa using HH.out, KR.refl _ _ _ _⟩
  case round =>
    obtain ⟨k, hk, hr, hnb, hhw, hkw⟩ := hrel
    have hT1 := HT.out.keptNe hkw.kept HN.out
    have hgg := Nat.lt_of_lt_of_le hg hkw.kept.size
    obtain ⟨a1, c1, hf1⟩ := hr.form
    subst hf1
    have hrest : ∀ x ∈ ys.drop k, x < 256 := fun x hx => HY.out x (List.mem_of_mem_drop hx)
    have htk : ∀ n, xs ++ ys.take (k + n) = (xs ++ ys.take k) ++ (ys.drop k).take n := fun n => by rw [List.append_assoc, List.take_add]
    have hdk : ∀ n, ys.drop (k + n) = (ys.drop k).drop n := fun n => by rw [List.drop_drop]
    have hkl : (ys.drop k).length = ys.length - k := by simp
    have hzl : (xs ++ ys.take k).length = xs.length + k := by simp; omega
    generalize hrs : ys.drop k = rs at *
    generalize hzs : xs ++ ys.take k = zs at *
    by_cases h0 : rs.length = 0
    · have hk2 : k = ys.length := by omega
      have hfin : zs = xs ++ ys := by rw [← hzs, hk2, List.take_length]
      rw [hfin] at hhw
      have HHW := Lib.hid hhw; have HKW := Lib.hid hkw
      rw [h0]
      clear hr hhw hkw htk hdk hrest hrs hzs hnb hT1 hkl hfin hk2 hzl
      go_wp2_with fail
      go_end0
      exact ⟨rfl, HHW.out, HKW.out⟩
    · rcases hr with ⟨_, hr0⟩ | ⟨gs, os, cap, hf2, r1, r2, r3, r4⟩
      · exact absurd (by rw [hr0]; rfl) h0
      injection hf2 with e1 _ e3
      subst e1 e3
      have hgs : gs ≠ g := hnb gs rfl
      obtain ⟨blk, hb1, hb2, hb3, hb4⟩ := hhw.blk
      have hok := hsh_ok hhw.byte
      have hlen := hhw.len
      have hlf := hhw.free
      obtain ⟨m, hm⟩ : ∃ m, m = zs.length % 136 := ⟨_, rfl⟩
      obtain ⟨L, hL⟩ : ∃ L, L = zs.length := ⟨_, rfl⟩
      obtain ⟨l, hl⟩ : ∃ l, l = rs.length := ⟨_, rfl⟩
      obtain ⟨n, hn⟩ : ∃ n, n = Nat.min l (136 - m) := ⟨_, rfl⟩
      have hL62 : L < 2 ^ 62 := by omega
      have hn1 : n ≤ l := by rw [hn]; exact Nat.min_le_left _ _
      have hn2 : n ≤ 136 - m := by rw [hn]; exact Nat.min_le_right _ _
      have hn0 : 0 < n := by rw [hn]; exact Nat.lt_min.2 ⟨by omega, by omega⟩
      have hcl : (rs.take n).length = n := by simp; omega
      rw [← hL] at hlen
      have hmax := r2
      unfold maxLen at hmax
      have hrun := fun (W : World) (hW : W.heap = wr.heap) => run_copy8 (P := Tryz.prog) W 52 52 3 5 g (off + 25 + m) (136 - m) (136 - m) l c1 gs os blk (rs.take n) rs rfl rfl (by rw [hcl, hn])
        (fun j hj => by rw [hcl] at hj; refine ⟨by omega, ?_⟩; rw [List.getD_eq_getElem?_getD, List.getD_eq_getElem?_getD, List.getElem?_take_of_lt hj])
        (fun j hj => by have := r4 j hj; unfold World.cell? at this ⊢; rw [hW]; exact this) (off + 25) m rfl (⟨fun i hi => by have := hb3.cell i hi; unfold World.cell? at this ⊢; rw [hW]; exact this, fun i hi => by have := hb3.free i hi; unfold World.frozen? at this ⊢; rw [hW]; exact this⟩) (by rw [hcl]; omega)
      rw [hcl] at hrun
      rw [← hl]
      have HRUN := Lib.hid hrun
      have y1 : (0 : Int) ≤ m := by omega
      have y2 : (m : Int) ≤ 136 := by omega
      have y3 : ¬ 136 = m := by omega
      have y4 : (0 : Int) < l := by omega
      have y5 : (n : Int) ≤ l := by omega
      have y6 : (0 : Int) ≤ n := by omega
      have HR4 := Lib.hid r4; have HB3 := Lib.hid hb3; have HB4 := Lib.hid hb4; have HB2 := Lib.hid hb2; have HOK := Lib.hid hok; have HHW := Lib.hid hhw; have HKW := Lib.hid hkw
      have HTK := Lib.hid htk; have HDK := Lib.hid hdk; have HREST := Lib.hid hrest; have HRS := Lib.hid hrs; have HZS := Lib.hid hzs; have HT1 := Lib.hid hT1
      have HM := Lib.hid hm; have HL := Lib.hid hL; have HLL := Lib.hid hl; have HNN := Lib.hid hn
      clear hrun r4 hb3 hb4 hb2 hok hhw hkw htk hdk hrest hrs hzs hT1 hm hL hl hn hnb h0 hkl
      go_wp2_with fail
      go_still_tail 7, (by kernel_rfl)
      still_call ((pending_any _ g off L (by exact hlen) hL62).mono (fun _ _ h => ⟨h.1, h.2.symm⟩))
      rw [← HL.out] at HM
      rw [← HM.out]
      repeat still_step
      refine wpStill_nil ?_
      change wpList _ _ _ _ _ wr.drew
      have hr1 := HRUN.out wr.drew rfl
      have kr1 : KR g (off + 25 + m) (off + 25 + m + n) wr.drew (wr.drew.setCells g (off + 25 + m) (arr8 (rs.take n))) := KR.setCells g _ _ _ _ _ (Nat.le_refl _) (by rw [arr8_length, hcl]; exact Nat.le_refl _)
      have B1 := HB3.out.drew.splice (a := m) (c := rs.take n) (by rw [hcl]; omega)
      have S1 := HHW.out.st.drew.kr kr1 hgg (Or.inr (Or.inr (by have := HOK.out.l1; omega)))
      have L1 := (kr1.out (off + 161) (by omega)).trans hlen
      have F1 := (kr1.frozen (off + 161)).trans hlf
      have K1 := HKW.out.drew.trans kr1 (Nat.le_refl _) (Nat.le_refl _) (by omega) (by omega)
      have R1 : ∀ i, i < rs.length → (wr.drew.setCells g (off + 25 + m) (arr8 (rs.take n))).cell? ⟨gs, os + i, none⟩ = some (.int .u8 (rs.getD i 0 : Nat)) := fun i hi => (kr1.kept.cell (p := ⟨gs, os + i, none⟩) r3 hgs).trans (HR4.out i hi)
      have T1 := HT1.out.keptNe (a := wr) (b := wr.drew.setCells g (off + 25 + m) (arr8 (rs.take n))) (((KR.refl g 0 0 wr).kept.drew).trans kr1.kept (fun _ _ h => h) (fun _ _ h => h)) HN.out
      have G1 : g < (wr.drew.setCells g (off + 25 + m) (arr8 (rs.take n))).heap.size := Nat.lt_of_lt_of_le hgg kr1.kept.size
      have Q1 : gs < (wr.drew.setCells g (off + 25 + m) (arr8 (rs.take n))).heap.size := Nat.lt_of_lt_of_le r3 kr1.kept.size
      have HX := Lib.hid hr1; have HKR := Lib.hid kr1; have HB := Lib.hid B1; have HS := Lib.hid S1; have HL1 := Lib.hid L1; have HF1 := Lib.hid F1; have HK1 := Lib.hid K1; have HR1 := Lib.hid R1; have HTT := Lib.hid T1
      clear hr1 kr1 B1 S1 L1 F1 K1 R1 T1 hlen hlf HB3 HRUN HHW HKW HR4 HT1
      obtain ⟨w1, hw1⟩ : ∃ w1, w1 = wr.drew.setCells g (off + 25 + m) (arr8 (rs.take n)) := ⟨_, rfl⟩
      rw [← hw1] at HX HB HS HL1 HF1 HK1 HR1 HTT G1 Q1 HKR
      clear hw1 HKR
      obtain ⟨L2, hL2⟩ : ∃ L2, L2 = L + n := ⟨_, rfl⟩
      have wn : IntKind.u64.wrap (n : Int) = (n : Int) := IntWalk.u64_in _ (by omega)
      have wadd : IntKind.u64.wrap ((L : Int) + n) = (L2 : Int) := by rw [IntWalk.u64_in _ (by omega)]; omega
      have nc : (n : Int) ≤ c1 := by have := HLL.out; omega
      have nc' : n ≤ c1 := by have := HLL.out; omega
      have hlen := HL1.out
      have hlf := HF1.out
      have HL2 := Lib.hid hL2; clear hL2
      refine Lib.wpList_copy_run _ rfl _ _ 52 52 rfl _ _ rfl rfl HX.out ?_
      have hlz : L2 = (zs ++ rs.take n).length := by rw [List.length_append, hcl, HL2.out, HL.out]
      have hb : (hsh zs).2.length = m := by rw [HOK.out.l2, HM.out, HL.out]
      have HB4' := HB4.out
      rw [hb] at HB4'
      have hB := HB.out
      rw [HB4', hcl] at hB
      have hBl : ((hsh zs).2 ++ rs.take n ++ blk.drop (m + n)).length = 136 := by simp only [List.length_append, List.length_drop, hb, hcl, hb1]; omega
      have hBb : ∀ x ∈ (hsh zs).2 ++ rs.take n ++ blk.drop (m + n), x < 256 := by
        intro x hx
        rcases List.mem_append.1 hx with hx | hx
        · rcases List.mem_append.1 hx with hx | hx
          · exact HOK.out.b2 x hx
          · exact HREST.out x (List.mem_of_mem_take hx)
        · exact HB2.out x (List.mem_of_mem_drop hx)
      have hBt : ((hsh zs).2 ++ rs.take n ++ blk.drop (m + n)).take (m + n) = (hsh zs).2 ++ rs.take n := by
        rw [List.take_append_of_le_length (by rw [List.length_append, hb, hcl]; exact Nat.le_refl _), List.take_of_length_le (by rw [List.length_append, hb, hcl]; exact Nat.le_refl _)]
      have hc1 : m + n < 136 → hsh (zs ++ rs.take n) = ((hsh zs).1, (hsh zs).2 ++ rs.take n) := fun h => by
        rw [hsh_append]; exact feed_few (rs.take n) (hsh zs).1 (hsh zs).2 (by rw [hb, hcl]; exact h)
      have hc2 : m + n = 136 → hsh (zs ++ rs.take n) = (absS (hsh zs).1 ((hsh zs).2 ++ rs.take n ++ blk.drop (m + n)), []) := fun h => by
        rw [hsh_append, show blk.drop (m + n) = [] by rw [h]; exact List.drop_of_length_le (by omega), List.append_nil]; exact feed_full (rs.take n) (hsh zs).1 (hsh zs).2 (by rw [hb, hcl]; exact h) (by rw [hb, HM.out]; exact Nat.mod_lt _ (by omega))
      have hzb : ∀ x ∈ zs ++ rs.take n, x < 256 := by
        intro x hx
        rcases List.mem_append.1 hx with hx | hx
        · rw [← HZS.out] at hx
          rcases List.mem_append.1 hx with hx | hx
          · exact HH.out.byte x hx
          · exact HY.out x (List.mem_of_mem_take hx)
        · exact HREST.out x (List.mem_of_mem_take hx)
      have hs25 := HOK.out.l1
      have hs64 := HOK.out.b1
      have hSt := HS.out
      obtain ⟨Bk, hBk⟩ : ∃ Bk, Bk = (hsh zs).2 ++ rs.take n ++ blk.drop (m + n) := ⟨_, rfl⟩
      rw [← hBk] at hB hBl hBb hBt hc2
      obtain ⟨st, hst⟩ : ∃ st, st = (hsh zs).1 := ⟨_, rfl⟩
      rw [← hst] at hc1 hc2 hs25 hs64 hSt
      obtain ⟨bu, hbu⟩ : ∃ bu, bu = (hsh zs).2 := ⟨_, rfl⟩
      rw [← hbu] at hc1 hBt hb
      have htk2 := HTK.out n
      have hdk2 := HDK.out n
      obtain ⟨z2, hz2⟩ : ∃ z2, z2 = zs ++ rs.take n := ⟨_, rfl⟩
      rw [← hz2] at hc1 hc2 hzb hlz htk2
      have hbl2 : (bu ++ rs.take n).length = m + n := by simp [hb, hcl]
      generalize rs.take n = cn at hc1 hBt hbl2
      have RD : ∀ W : World, (∀ i, i < rs.length → W.cell? ⟨gs, os + i, none⟩ = some (.int .u8 (rs.getD i 0 : Nat))) → gs < W.heap.size → ∀ pv, (pv = .slice (some ⟨gs, os + n, none⟩) (l - n) (c1 - n) ∨ (c1 = n ∧ pv = .slice (some ⟨gs, os, none⟩) (l - n) 0)) →
          Reads W pv (ys.drop (k + n)) ∧ (∀ b, pv.ownBlock = some b → b ≠ g) ∧ slLen pv = l - n := by
        intro W hW hWs pv hpv
        rw [hdk2]
        have hr1 : Reads W (.slice (some ⟨gs, os, none⟩) rs.length c1) rs := Or.inr ⟨gs, os, c1, rfl, r1, r2, hWs, hW⟩
        have hll := HLL.out
        rcases hpv with rfl | ⟨hcn, rfl⟩
        · refine ⟨?_, fun b hb => by simp [Value.ownBlock] at hb; subst hb; exact hgs, rfl⟩
          rw [hll]; exact hr1.drop n (by omega)
        · have hnil : rs.drop n = [] := List.drop_of_length_le (by omega)
          refine ⟨?_, fun b hb => by simp [Value.ownBlock] at hb; subst hb; exact hgs, rfl⟩
          rw [hnil, show l - n = 0 by omega]
          exact Or.inr ⟨gs, os, 0, rfl, by simp, by simp, hWs, fun i hi => by simp at hi⟩
      have hkn : k + n ≤ ys.length := by
        have h1 := HRS.out
        have h2 : rs.length = ys.length - k := by rw [← h1]; simp
        have h3 := HLL.out
        omega
      have HRD := Lib.hid RD; have HC1 := Lib.hid hc1; have HC2 := Lib.hid hc2; have HZB := Lib.hid hzb; have HLZ := Lib.hid hlz; have HB' := Lib.hid hB; have HBB := Lib.hid hBb; have HBT := Lib.hid hBt; have HS64 := Lib.hid hs64; have HST := Lib.hid hSt; have HTK2 := Lib.hid htk2; have HBL2 := Lib.hid hbl2
      clear RD hc1 hc2 hzb hlz hB hBb hBt hs64 hSt htk2 hdk2 hbl2 hst hbu hz2 hBk hb HB4' HX HL1 HF1 HB HS HB4 HB2 HOK HTK HDK HREST HRS HZS HNN HY
      have hlen2 : (w1.setCell ⟨g, off + 161, none⟩ (.int .u64 (L2 : Int))).cell? ⟨g, off + 161, none⟩ = some (.int .u64 (L2 : Nat)) := World.cell?_setCell_same _ _ _ hlen
      have hlf2 : (w1.setCell ⟨g, off + 161, none⟩ (.int .u64 (L2 : Int))).frozen? ⟨g, off + 161, none⟩ = false := by rw [World.frozen?_setCell]; exact hlf
      have kr2 := KR.setCell g (off + 161) (off + 161) (off + 162) w1 (.int .u64 (L2 : Int)) (by omega)
      have hK2 := HK1.out.trans kr2 (Nat.le_refl _) (Nat.le_refl _) (by omega) (by omega)
      have hB2 := HB'.out.kr kr2 G1 (Or.inr (Or.inr (by omega)))
      have hS2 := HST.out.kr kr2 G1 (Or.inr (Or.inr (by omega)))
      have hR2 : ∀ i, i < rs.length → (w1.setCell ⟨g, off + 161, none⟩ (.int .u64 (L2 : Int))).cell? ⟨gs, os + i, none⟩ = some (.int .u8 (rs.getD i 0 : Nat)) := fun i hi => (kr2.kept.cell (p := ⟨gs, os + i, none⟩) Q1 hgs).trans (HR1.out i hi)
      have hT2 := HTT.out.keptNe kr2.kept HN.out
      have G2 := Nat.lt_of_lt_of_le G1 kr2.kept.size
      have Q2 := Nat.lt_of_lt_of_le Q1 kr2.kept.size
      have HLEN2 := Lib.hid hlen2; have HLF2 := Lib.hid hlf2; have HK2 := Lib.hid hK2; have HB2 := Lib.hid hB2; have HS2 := Lib.hid hS2; have HR2 := Lib.hid hR2; have HT2 := Lib.hid hT2; have HG2 := Lib.hid G2; have HQ2 := Lib.hid Q2
      clear hlen2 hlf2 kr2 hK2 hB2 hS2 hR2 hT2 G2 Q2 HB' HST HR1 HTT HK1
      obtain ⟨m2, hm2⟩ : ∃ m2, m2 = L2 % 136 := ⟨_, rfl⟩
      have hm2c : (m2 = 0 ∧ m + n = 136) ∨ (m2 ≠ 0 ∧ m + n < 136) := by
        have := HM.out; have := HL2.out; omega
      have HM2 := Lib.hid hm2; clear hm2
      go_wp2_with fail
      all_goals
        refine (pending_any _ g off L2 HLEN2.out (by have := HL2.out; have := HL.out; omega)).mono ?_
        rw [← HM2.out]
        rintro e w2 ⟨rfl, rfl⟩
        generalize w1.setCell ⟨g, off + 161, none⟩ (.int .u64 (L2 : Int)) = w2 at *
        clear hlen hlf
        rcases hm2c with ⟨hm0, hmn⟩ | ⟨hm0, hmn⟩
        · subst hm0
          go_wp2_with fail
          go_still_tail 6, (by kernel_rfl)
          change wpList _ _ _ _ _ w2.drew
          go_wp2_with fail
          refine (absorb_any w2.drew g off g (off + 25) st Bk hs25 HS64.out HS2.out.drew HG2.out (HT2.out.keptNe (KR.refl g 0 0 w2).kept.drew HN.out) HN.out hBl HBB.out HB2.out.drew HG2.out (Or.inr (Or.inl (Nat.le_refl _)))).mono ?_
          rintro e w3 ⟨rfl, hs3, k3⟩
          have e2 := HC2.out hmn
          have hfin : HashAt w3 g off z2 := ⟨by rw [e2]; exact hs3, ⟨Bk, hBl, HBB.out, HB2.out.drew.kr k3 HG2.out (Or.inr (Or.inl (Nat.le_refl _))), by rw [e2]; rfl⟩,
            by rw [← HLZ.out]; exact (k3.out (off + 161) (by omega)).trans HLEN2.out, (k3.frozen (off + 161)).trans HLF2.out, HZB.out⟩
          have hR3 : ∀ i, i < rs.length → w3.cell? ⟨gs, os + i, none⟩ = some (.int .u8 (rs.getD i 0 : Nat)) := fun i hi => (k3.kept.cell (p := ⟨gs, os + i, none⟩) HQ2.out hgs).trans (HR2.out i hi)
          have hQ3 := Nat.lt_of_lt_of_le (show gs < w2.drew.heap.size from HQ2.out) k3.kept.size
          have hk3 := HK2.out.drew.trans k3 (Nat.le_refl _) (Nat.le_refl _) (Nat.le_refl _) (by omega)
          rw [← HTK2.out] at hfin
          have HFIN := Lib.hid hfin; have HR3 := Lib.hid hR3; have HK3 := Lib.hid hk3
          clear hs3 k3 e2 hfin hR3 hk3
          go_wp2_with fail
          have hrdL := HRD.out w3 HR3.out hQ3 _ (Or.inl rfl)
          have hrdR := fun hc => HRD.out w3 HR3.out hQ3 _ (Or.inr ⟨hc, rfl⟩)
          go_roundw
          case rel =>
            first
              | exact ⟨k + n, hkn, hrdL.1, hrdL.2.1, HFIN.out, HK3.out⟩
              | exact ⟨k + n, hkn, (hrdR (by assumption)).1, (hrdR (by assumption)).2.1, HFIN.out, HK3.out⟩
          case measure => simp [slLen]; omega
        · have e2 := HC1.out hmn
          have hfin : HashAt w2 g off z2 := ⟨by rw [e2]; exact HS2.out, ⟨Bk, hBl, HBB.out, HB2.out, by rw [e2]; show Bk.take (bu ++ cn).length = bu ++ cn; rw [HBL2.out]; exact HBT.out⟩,
            by rw [← HLZ.out]; exact HLEN2.out, HLF2.out, HZB.out⟩
          rw [← HTK2.out] at hfin
          have HFIN := Lib.hid hfin
          have hm0' : ¬ (m2 : Int) = 0 := by omega
          clear e2 hfin
          go_wp2_with fail
          have hrdL := HRD.out w2 HR2.out HQ2.out _ (Or.inl rfl)
          have hrdR := fun hc => HRD.out w2 HR2.out HQ2.out _ (Or.inr ⟨hc, rfl⟩)
          go_roundw
          case rel =>
            first
              | exact ⟨k + n, hkn, hrdL.1, hrdL.2.1, HFIN.out, HK2.out⟩
              | exact ⟨k + n, hkn, (hrdR (by assumption)).1, (hrdR (by assumption)).2.1, HFIN.out, HK2.out⟩
          case measure => simp [slLen]; omega
end Go.Proofs.YtjglnpijngdpkaaGreatDoor
/-
  arbac/keccak: (*Hash).Sum.
-/
namespace Go.Proofs.YtjglnpijngdpkaaGreatDoor
open Go.RowKit

def padA (b : List Nat) : List Nat := b ++ List.replicate (136 - b.length) 0
theorem padA_length (b : List Nat) (h : b.length < 136) : (padA b).length = 136 := by simp [padA]; omega
theorem padA_lt {b : List Nat} (h : ∀ x ∈ b, x < 256) : ∀ x ∈ padA b, x < 256 := by
  intro x hx
  rcases List.mem_append.1 hx with hx | hx
  · exact h x hx
  · have := List.eq_of_mem_replicate hx; omega
theorem set_lt8 {b : List Nat} (hb : ∀ x ∈ b, x < 256) (i y : Nat) (hy : y < 256) : ∀ x ∈ b.set i y, x < 256 := by
  intro x hx
  rcases List.mem_or_eq_of_mem_set hx with h | h
  · exact hb x h
  · rw [h]; exact hy
theorem padB_eq (b : List Nat) : padB b = ((padA b).set b.length 6).set 135 (((padA b).set b.length 6).getD 135 0 ^^^ 128) := rfl
theorem padB_length (b : List Nat) (h : b.length < 136) : (padB b).length = 136 := by rw [padB_eq, List.length_set, List.length_set, padA_length b h]
theorem xor_lt8 {a b : Nat} (ha : a < 256) (hb : b < 256) : a ^^^ b < 256 := Nat.xor_lt_two_pow (n := 8) ha hb
theorem padB_lt {b : List Nat} (h : ∀ x ∈ b, x < 256) : ∀ x ∈ padB b, x < 256 := by
  rw [padB_eq]
  exact set_lt8 (set_lt8 (padA_lt h) _ _ (by omega)) _ _ (xor_lt8 (getD_lt256 (set_lt8 (padA_lt h) _ _ (by omega)) _) (by omega))
theorem xor8 (a b y : Nat) (ha : a < 256) (hb : b < 256) (h : y = a ^^^ b) : bits .xor .u8 (a : Int) (b : Int) = (y : Int) := by
  rw [u8_xor_nat _ _ (by omega) (by omega), h]

set_option maxRecDepth 100000 in
set_option maxHeartbeats 1600000 in
theorem hsum_any (w : World) (g off : Nat) (xs : List Nat) (hh : HashAt w g off xs) (hg : g < w.heap.size) (hT : KTab w) (hle : xs.length < 2 ^ 62) :
    Calls Tryz.prog 75 #[.pointer (some ⟨g, off, none⟩)] w fun e w' => e = .returned (.agg (arr8 (digS xs)).toArray) ∧ Kept (fun _ => False) w w' := by
  have hok := hsh_ok hh.byte
  have hdg : digS xs = dig (absS (hsh xs).1 (padB (hsh xs).2)) := rfl
  rw [hdg]
  obtain ⟨blk, hb1, hb2, hb3, hb4⟩ := hh.blk
  have hS := hh.st
  obtain ⟨st, hst⟩ : ∃ st, st = (hsh xs).1 := ⟨_, rfl⟩
  obtain ⟨bu, hbu⟩ : ∃ bu, bu = (hsh xs).2 := ⟨_, rfl⟩
  have s25 := hok.l1; have s64 := hok.b1; have bl := hok.l2; have b8 := hok.b2
  rw [← hst, ← hbu]
  rw [← hst] at s25 s64 hS
  rw [← hbu] at bl b8 hb4
  have hlen := hh.len
  obtain ⟨m, hm⟩ : ∃ m, m = xs.length % 136 := ⟨_, rfl⟩
  have hm136 : m < 136 := by omega
  rw [← hm] at bl
  rw [bl] at hb4
  have HLEN := Lib.hid hlen; have HM := Lib.hid hm; have HBU := Lib.hid b8; have HS := Lib.hid hS; have HS64 := Lib.hid s64; have HB3 := Lib.hid hb3; have HB4 := Lib.hid hb4; have HT := Lib.hid hT
  clear hlen hm b8 hS s64 hb3 hb4 hT hh hok hdg hst hbu hb2
  -- the two blocks of the function's own
  obtain ⟨wA, hwA⟩ : ∃ wA, wA = w.alloc (.cells (arr8 (List.replicate 32 0)).toArray 59) := ⟨_, rfl⟩
  obtain ⟨wB, hwB⟩ : ∃ wB, wB = wA.alloc (.cells (arr8 (List.replicate 136 0)).toArray 120) := ⟨_, rfl⟩
  have szA : wA.heap.size = w.heap.size + 1 := by rw [hwA]; simp
  have szB : wB.heap.size = w.heap.size + 2 := by rw [hwB]; simp [szA]
  have R0 : Blk wB w.heap.size 0 (List.replicate 32 0) := by
    rw [hwB]
    refine Blk.kept (S := fun _ => False) (w := wA) ?_ (Kept.alloc _ _ _) (by omega) (fun h => h)
    rw [hwA]
    exact blk_new w (arr8 (List.replicate 32 0)).toArray 59 (List.replicate 32 0) (by simp)
  have P0 : Blk wB (w.heap.size + 1) 0 (List.replicate 136 0) := by
    rw [hwB, ← szA]; exact blk_new wA (arr8 (List.replicate 136 0)).toArray 120 (List.replicate 136 0) (by simp)
  have KB : Kept (fun _ => False) w wB := by rw [hwB, hwA]; exact (Kept.alloc _ _ _).then (Kept.alloc _ _ _)
  have hrun := run_copy8 (P := Tryz.prog) wB.drew 52 52 3 5 (w.heap.size + 1) 0 136 136 m 136 g (off + 25) (List.replicate 136 0) (blk.take m) blk rfl rfl
    (by simp [hb1] <;> omega)
    (fun j hj => by simp at hj; refine ⟨by omega, ?_⟩; rw [List.getD_eq_getElem?_getD, List.getD_eq_getElem?_getD, List.getElem?_take_of_lt (by omega)])
    (fun j hj => (KB.cell (p := ⟨g, off + 25 + j, none⟩) hg (fun h => h)).trans (HB3.out.cell j hj)) 0 0 rfl P0.drew (by simp; omega)
  have P1 := P0.drew.splice (a := 0) (c := blk.take m) (by simp; omega)
  rw [HB4.out, bl] at hrun
  rw [HB4.out, bl, show (List.replicate 136 0).take 0 ++ bu ++ (List.replicate 136 0).drop (0 + m) = padA bu by simp only [padA, bl, List.take_zero, List.nil_append, Nat.zero_add, List.drop_replicate]] at P1
  have kc : Kept (fun k => k = w.heap.size + 1) wB.drew (wB.drew.setCells (w.heap.size + 1) (0 + 0) (arr8 bu)) := Kept.setCells _ _ _ _
  have KC := KB.drew.trans kc (T := fun _ => False) (fun _ _ h => h) (fun i hi e => by omega)
  have R1 := R0.drew.kept kc (by show w.heap.size < wB.heap.size; omega) (by omega)
  have SC : w.heap.size + 2 ≤ (wB.drew.setCells (w.heap.size + 1) (0 + 0) (arr8 bu)).heap.size := Nat.le_trans (by rw [← szB]; exact Nat.le_refl _) kc.size
  have HC := Lib.hid hrun; have HP1 := Lib.hid P1; have HKC := Lib.hid KC; have HR1 := Lib.hid R1; have HSC := Lib.hid SC
  have hlenB : wB.cell? ⟨g, off + 161, none⟩ = some (.int .u64 (xs.length : Nat)) := (KB.cell (p := ⟨g, off + 161, none⟩) hg (fun h => h)).trans HLEN.out
  have HLB := Lib.hid hlenB
  clear hrun P1 KC R1 SC kc P0 R0 hlenB
  have y1 : (0 : Int) ≤ m := by omega
  have y2 : (m : Int) ≤ 136 := by omega
  have y3 : (m : Int) < 136 := by omega
  have hgB : g < wB.heap.size := by omega
  have HWA := Lib.hid hwA; have HWB := Lib.hid hwB
  have HSB := Lib.hid szB
  clear hwA hwB szA szB
  have hz136 : ∀ W : World, Sem.run Tryz.prog (zeroValue 120) W = .ok (.agg (arr8 (List.replicate 136 0)).toArray) W := fun _ => by kernel_rfl
  go_enter Tryz.func75, Tryz.ntmps75
  go_wp2_with fail
  refine (pending_any _ g off xs.length (by have := (Kept.alloc (fun _ => False) w (.cells (arr8 (List.replicate 32 0)).toArray 59)).cell (p := ⟨g, off + 161, none⟩) hg (fun h => h); exact this.trans HLEN.out) hle).mono ?_
  rw [← HM.out]
  rintro e w2 ⟨rfl, rfl⟩
  go_wp2_with fail
  go_still_tail 6, (by kernel_rfl)
  change wpList _ _ _ _ _ ((w.alloc (.cells (arr8 (List.replicate 32 0)).toArray 59)).alloc (.cells (arr8 (List.replicate 136 0)).toArray 120)).drew
  rw [← HWA.out, ← HWB.out]
  refine Lib.wpList_copy_run _ rfl _ _ 52 52 rfl _ _ rfl rfl HC.out ?_
  clear HC HWA HWB
  have hp1 : Blk (wB.drew.setCells (w.heap.size + 1) 0 (arr8 bu)) (w.heap.size + 1) 0 (padA bu) := HP1.out
  have hkc : Kept (fun _ => False) w (wB.drew.setCells (w.heap.size + 1) 0 (arr8 bu)) := HKC.out
  have hr1 : Blk (wB.drew.setCells (w.heap.size + 1) 0 (arr8 bu)) w.heap.size 0 (List.replicate 32 0) := HR1.out
  have hsc : w.heap.size + 2 ≤ (wB.drew.setCells (w.heap.size + 1) 0 (arr8 bu)).heap.size := HSC.out
  clear HP1 HKC HR1 HSC HSB HLB hgB KB
  generalize wB.drew.setCells (w.heap.size + 1) 0 (arr8 bu) = wC at *
  have hpl : (padA bu).length = 136 := padA_length bu (by omega)
  have d1 := hp1.cell m (by omega)
  have f1 := hp1.free m (by omega)
  rw [Nat.zero_add] at d1 f1
  have hq : Blk (wC.setCell ⟨w.heap.size + 1, m, none⟩ (.int .u8 6)) (w.heap.size + 1) 0 ((padA bu).set m 6) := by
    have := hp1.set m 6 (by omega)
    rwa [Nat.zero_add] at this
  have kq : Kept (fun k => k = w.heap.size + 1) wC (wC.setCell ⟨w.heap.size + 1, m, none⟩ (.int .u8 6)) := Kept.setCell _ _ _ _ rfl
  have hql : ((padA bu).set m 6).length = 136 := by rw [List.length_set, hpl]
  have d2 := hq.cell 135 (by omega)
  have f2 := hq.free 135 (by omega)
  rw [Nat.zero_add] at d2 f2
  obtain ⟨v, hv⟩ : ∃ v, v = ((padA bu).set m 6).getD 135 0 := ⟨_, rfl⟩
  have hv8 : v < 256 := by rw [hv]; exact getD_lt256 (set_lt8 (padA_lt HBU.out) _ _ (by omega)) _
  rw [← hv] at d2
  obtain ⟨y, hy⟩ : ∃ y, y = v ^^^ 128 := ⟨_, rfl⟩
  have hx : bits .xor .u8 (v : Int) 128 = (y : Int) := xor8 v 128 y hv8 (by omega) hy
  have hp : Blk ((wC.setCell ⟨w.heap.size + 1, m, none⟩ (.int .u8 6)).setCell ⟨w.heap.size + 1, 135, none⟩ (.int .u8 (y : Int))) (w.heap.size + 1) 0 (padB bu) := by
    have := hq.set 135 y (by omega)
    rw [Nat.zero_add] at this
    rw [padB_eq, bl, ← hv, ← hy]
    exact this
  have kp : Kept (fun k => k = w.heap.size + 1) (wC.setCell ⟨w.heap.size + 1, m, none⟩ (.int .u8 6)) ((wC.setCell ⟨w.heap.size + 1, m, none⟩ (.int .u8 6)).setCell ⟨w.heap.size + 1, 135, none⟩ (.int .u8 (y : Int))) := Kept.setCell _ _ _ _ rfl
  have kqp := kq.trans kp (T := fun k => k = w.heap.size + 1) (fun _ _ h => h) (fun _ _ h => h)
  have KE := hkc.trans kqp (T := fun _ => False) (fun _ _ h => h) (fun i hi e => by omega)
  have RE := hr1.kept kqp (by omega) (by omega)
  have SE := HS.out.kept KE hg (fun h => h)
  have NE := Nat.le_trans hsc kqp.size
  have TE := HT.out.kept KE (fun _ _ h => h)
  have hNE : ((wC.setCell ⟨w.heap.size + 1, m, none⟩ (.int .u8 6)).setCell ⟨w.heap.size + 1, 135, none⟩ (.int .u8 (y : Int))).heap.size = wC.heap.size := by simp
  have HPE := Lib.hid hp; have HKE := Lib.hid KE; have HRE := Lib.hid RE; have HSE := Lib.hid SE; have HTE := Lib.hid TE; have HNE := Lib.hid hNE
  have hpb := padB_length bu (by omega)
  have HPB := Lib.hid (padB_lt HBU.out)
  have z25 := Lib.hid size25
  obtain ⟨cs, hcs⟩ : ∃ cs, cs = arr st := ⟨_, rfl⟩
  have HG := Lib.hid SE.get
  rw [← hcs] at HG
  have hsz : (Tryz.prog.info? 119).map (·.size) = some cs.length := by rw [hcs, arr_length, s25]; exact size25
  have HSZ := Lib.hid hsz
  have HCS := Lib.hid hcs
  obtain ⟨wE, hwE⟩ : ∃ wE, wE = (wC.setCell ⟨w.heap.size + 1, m, none⟩ (.int .u8 6)).setCell ⟨w.heap.size + 1, 135, none⟩ (.int .u8 (y : Int)) := ⟨_, rfl⟩
  rw [← hwE] at hp KE RE SE TE hNE
  have ZL := lanes_new wE (arr (List.replicate 25 0)).toArray 119 (List.replicate 25 0) rfl
  have ka : Kept (fun _ => False) wE (wE.alloc (.cells (arr (List.replicate 25 0)).toArray 119)) := Kept.alloc _ _ _
  have ks : Kept (fun k => k = wC.heap.size) (wE.alloc (.cells (arr (List.replicate 25 0)).toArray 119)) ((wE.alloc (.cells (arr (List.replicate 25 0)).toArray 119)).setCells wC.heap.size 0 (arr st)) := Kept.setCells _ _ _ _
  have kas := ka.trans ks (T := fun _ => False) (fun _ _ h => h) (fun i hi e => by omega)
  have LG := ZL.setCells (t := st) (by simp [s25])
  rw [hNE] at LG ZL
  have PG := hp.kept kas (by omega) (fun h => h)
  have RG := RE.kept kas (by omega) (fun h => h)
  have KG := KE.then kas
  have TG := TE.kept kas (fun _ _ h => h)
  have NG : wC.heap.size < ((wE.alloc (.cells (arr (List.replicate 25 0)).toArray 119)).setCells wC.heap.size 0 (arr st)).heap.size := Nat.lt_of_lt_of_le (by rw [← hNE]; simp) ks.size
  have hzz : ∀ j, j < cs.length → ((wE.alloc (.cells (arr (List.replicate 25 0)).toArray 119)).cell? ⟨wC.heap.size, 0 + j, none⟩).isSome = true := fun j hj => by
    rw [hcs, arr_length, s25] at hj; rw [ZL.cell j (by simpa using hj)]; rfl
  have hzf : ∀ j, j < cs.length → (wE.alloc (.cells (arr (List.replicate 25 0)).toArray 119)).frozen? ⟨wC.heap.size, 0 + j, none⟩ = false := fun j hj => by
    rw [hcs, arr_length, s25] at hj; exact ZL.free j (by simpa using hj)
  have ho : ∀ v ∈ cs, v.oneCell' = true := by rw [hcs]; exact arr_one st
  rw [← hcs] at LG PG RG KG TG NG
  rw [hwE] at LG PG RG KG TG NG hzz hzf
  have HLG := Lib.hid LG; have HPG := Lib.hid PG; have HRG := Lib.hid RG; have HKG := Lib.hid KG; have HTG := Lib.hid TG; have HNG := Lib.hid NG; have HZ1 := Lib.hid hzz; have HZ2 := Lib.hid hzf; have HO := Lib.hid ho
  clear hq kq hp kp kqp KE RE SE TE NE hNE hr1 hkc hp1 hcs hsz hv hy ZL ka ks kas LG PG RG KG TG NG hzz hzf ho HPE HKE HRE HSE HTE HNE hwE
  go_wp2_with (first | (refine wpList_load_at rfl 119 _ rfl g off rfl cs _ HG.out Tryz.underlying119 rfl HSZ.out ?_) | (refine wpList_store_at rfl 119 _ _ rfl wC.heap.size 0 cs rfl rfl HZ1.out HZ2.out HO.out HSZ.out ?_))
  have hn1 : NoTab wC.heap.size := HT.out.fresh (by omega)
  refine (absorb_any _ wC.heap.size 0 (w.heap.size + 1) 0 st (padB bu) s25 HS64.out HLG.out HNG.out HTG.out hn1 hpb HPB.out HPG.out (Nat.lt_of_lt_of_le (by omega) (Nat.le_of_lt HNG.out)) (Or.inl (by omega))).mono ?_
  rintro e w8 ⟨rfl, h8, k8⟩
  have K8 := HKG.out.trans k8.kept (T := fun _ => False) (fun _ _ h => h) (fun i hi e => by omega)
  have R8 := HRG.out.kept k8.kept (Nat.lt_of_lt_of_le (by omega) (Nat.le_of_lt HNG.out)) (by omega)
  have N8 := Nat.lt_of_lt_of_le HNG.out k8.kept.size
  have HK8 := Lib.hid K8; have HR8 := Lib.hid R8; have H8 := Lib.hid h8
  clear k8 K8 R8 h8 HLG HPG HRG HKG HTG HNG HZ1 HZ2 d1 f1 d2 f2
  have hal := absS_ok (blk := padB bu) HS64.out s25 HPB.out
  have hl8 := hal.1
  clear hal
  go_wp2_with fail
  refine (id_any w8 wC.heap.size 0 _ hl8 H8.out N8).mono ?_
  rintro e w9 ⟨rfl, k9⟩
  have R9 := HR8.out.kept k9 (by omega) (fun h => h)
  have K9 := HK8.out.then k9
  obtain ⟨dd, hdd⟩ : ∃ dd, dd = dig (absS st (padB bu)) := ⟨_, rfl⟩
  have hdl : dd.length = 32 := by rw [hdd]; exact dig_length _
  rw [← hdd]
  obtain ⟨ds, hds⟩ : ∃ ds, ds = arr8 dd := ⟨_, rfl⟩
  have z1 : ∀ j, j < ds.length → (w9.cell? ⟨w.heap.size, 0 + j, none⟩).isSome = true := fun j hj => by
    rw [hds, arr8_length, hdl] at hj; rw [R9.cell j (by simpa using hj)]; rfl
  have z2 : ∀ j, j < ds.length → w9.frozen? ⟨w.heap.size, 0 + j, none⟩ = false := fun j hj => by
    rw [hds, arr8_length, hdl] at hj; exact R9.free j (by simpa using hj)
  have hsd : (Tryz.prog.info? 59).map (·.size) = some ds.length := by rw [hds, arr8_length, hdl]; exact size32
  have hfin := (R9.setCells (t := dd) (by simp [hdl])).get
  have K10 := K9.trans (Kept.setCells w.heap.size ds 0 w9) (T := fun _ => False) (fun _ _ h => h) (fun i hi e => by omega)
  have ho : ∀ v ∈ ds, v.oneCell' = true := by rw [hds]; exact arr8_one dd
  rw [← hds] at hfin
  rw [← hds]
  have Z1 := Lib.hid z1; have Z2 := Lib.hid z2; have HSD := Lib.hid hsd; have HF := Lib.hid hfin; have HK10 := Lib.hid K10; have HO2 := Lib.hid ho
  have HDS := Lib.hid hds; have HDD := Lib.hid hdd
  clear z1 z2 hsd hfin K10 ho hds hdd R9 K9 k9 HK8 HR8 H8 hl8
  go_wp2_with (first | (refine wpList_store_at rfl 59 _ _ rfl w.heap.size 0 ds rfl rfl Z1.out Z2.out HO2.out HSD.out ?_))
  refine bodyPost_ret_by (v := .agg ds.toArray) ?_ ?_ ?_
  · exact results_cell_at Tryz.results75 _ _ w.heap.size ds _ rfl HF.out Tryz.underlying59 rfl HSD.out
  · rfl
  · exact ⟨by first | rfl | rw [HDS.out, HDD.out], HK10.out⟩
end Go.Proofs.YtjglnpijngdpkaaGreatDoor
/-
  arbac/keccak: Sum, New, Len, Copy, Reset.
-/
namespace Go.Proofs.YtjglnpijngdpkaaGreatDoor
open Go.RowKit

def hash0 : List Value := arr (List.replicate 25 0) ++ arr8 (List.replicate 136 0) ++ [.int .u64 0]
theorem hash_new (w : World) (cs : Array Value) (T : TypeId) (hcs : cs.toList = hash0) : HashAt (w.alloc (.cells cs T)) w.heap.size 0 [] := by
  have hc : ∀ i, (w.alloc (.cells cs T)).cell? ⟨w.heap.size, i, none⟩ = hash0[i]? := fun i => by
    rw [cell_of_row _ w.heap.size i cs T (0, 0) (heap_alloc_new w _), ← Array.getElem?_toList, hcs]
  have hf : ∀ i, (w.alloc (.cells cs T)).frozen? ⟨w.heap.size, i, none⟩ = false := fun i => World.frozen?_alloc_new _ _ _ _
  refine ⟨⟨fun i hi => ?_, fun i _ => hf _⟩, ⟨List.replicate 136 0, by simp, fun x hx => by have := List.eq_of_mem_replicate hx; omega, ⟨fun i hi => ?_, fun i _ => hf _⟩, rfl⟩, ?_, hf _, by simp⟩
  · have hi' : i < 25 := by simpa [hsh] using hi
    rw [hc, hash0, List.append_assoc, List.getElem?_append_left (by rw [arr_length, List.length_replicate]; omega), Nat.zero_add, arr_get _ _ (by rw [List.length_replicate]; omega)]
    rfl
  · have hi' : i < 136 := by rw [List.length_replicate] at hi; exact hi
    rw [hc, hash0, List.append_assoc, List.getElem?_append_right (by rw [arr_length, List.length_replicate]; omega), arr_length, List.length_replicate, show 0 + 25 + i - 25 = i by omega,
      List.getElem?_append_left (by rw [arr8_length, List.length_replicate]; omega), arr8_get _ _ (by rw [List.length_replicate]; omega)]
  · rw [hc]; rfl

set_option maxRecDepth 100000 in
set_option maxHeartbeats 1600000 in
theorem ksum_any (w : World) (p : Value) (xs : List Nat) (hp : Reads w p xs) (hb : ∀ x ∈ xs, x < 256) (hT : KTab w) (hle : xs.length < 2 ^ 62) :
    Calls Tryz.prog 57 #[p] w fun e w' => e = .returned (.agg (arr8 (digS xs)).toArray) ∧ Kept (fun _ => False) w w' := by
  have hlt := hp.lt
  have HT := Lib.hid hT
  obtain ⟨wA, hwA⟩ : ∃ wA, wA = w.alloc (.cells (arr8 (List.replicate 32 0)).toArray 59) := ⟨_, rfl⟩
  have szA : wA.heap.size = w.heap.size + 1 := by rw [hwA]; simp
  have hh := hash_new wA hash0.toArray 122 (by simp)
  rw [szA] at hh
  have kB : Kept (fun _ => False) wA (wA.alloc (.cells hash0.toArray 122)) := Kept.alloc _ _ _
  have KB : Kept (fun _ => False) w (wA.alloc (.cells hash0.toArray 122)) := Kept.then (by rw [hwA]; exact Kept.alloc _ _ _) kB
  have R0 : Blk (wA.alloc (.cells hash0.toArray 122)) w.heap.size 0 (List.replicate 32 0) := by
    refine Blk.kept (S := fun _ => False) (w := wA) ?_ (Kept.alloc _ _ _) (by omega) (fun h => h)
    rw [hwA]
    exact blk_new w (arr8 (List.replicate 32 0)).toArray 59 (List.replicate 32 0) (by simp)
  have szB : (wA.alloc (.cells hash0.toArray 122)).heap.size = w.heap.size + 2 := by simp [szA]
  have PB := hp.kept KB (fun _ _ h => h)
  have TB := hT.kept KB (fun _ _ h => h)
  rw [hwA] at hh KB R0 szB PB TB
  have HH := Lib.hid hh; have HKB := Lib.hid KB; have HR0 := Lib.hid R0; have HSZ := Lib.hid szB; have HPB := Lib.hid PB; have HTB := Lib.hid TB; have HB := Lib.hid hb
  obtain ⟨a, c, hf⟩ := hp.form
  clear hp hT hh KB R0 szB PB TB hb kB hwA szA
  subst hf
  have hz162 : ∀ W : World, Sem.run Tryz.prog (zeroValue 122) W = .ok (.agg hash0.toArray) W := fun _ => by kernel_rfl
  go_enter Tryz.func57, Tryz.ntmps57
  go_wp2_with fail
  refine (write_any _ (w.heap.size + 1) 0 [] _ xs HH.out (by rw [HSZ.out]; omega) HTB.out (HT.out.fresh (by omega)) HPB.out HB.out (fun k hk e => by have := hlt k hk; omega) (by simpa using hle)).mono ?_
  rintro e w2 ⟨rfl, hh2, k2⟩
  rw [List.nil_append] at hh2
  have K2 := HKB.out.trans k2.kept (T := fun _ => False) (fun _ _ h => h) (fun i hi e => by omega)
  have R2 := HR0.out.kept k2.kept (by rw [HSZ.out]; omega) (by omega)
  have N2 : w.heap.size + 1 < w2.heap.size := Nat.lt_of_lt_of_le (by rw [HSZ.out]; omega) k2.kept.size
  have HH2 := Lib.hid hh2; have HK2 := Lib.hid K2; have HR2 := Lib.hid R2
  clear hh2 K2 R2 k2 HH HKB HR0 HSZ HPB HTB
  have HT2 := Lib.hid (HT.out.kept HK2.out (fun _ _ h => h))
  go_wp2_with fail
  refine (hsum_any w2 (w.heap.size + 1) 0 xs HH2.out N2 HT2.out hle).mono ?_
  rintro e w9 ⟨rfl, k9⟩
  have R9 := HR2.out.kept k9 (by omega) (fun h => h)
  have K9 := HK2.out.then k9
  obtain ⟨dd, hdd⟩ : ∃ dd, dd = digS xs := ⟨_, rfl⟩
  have hdl : dd.length = 32 := by rw [hdd]; exact dig_length _
  rw [← hdd]
  obtain ⟨ds, hds⟩ : ∃ ds, ds = arr8 dd := ⟨_, rfl⟩
  have z1 : ∀ j, j < ds.length → (w9.cell? ⟨w.heap.size, 0 + j, none⟩).isSome = true := fun j hj => by
    rw [hds, arr8_length, hdl] at hj; rw [R9.cell j (by simpa using hj)]; rfl
  have z2 : ∀ j, j < ds.length → w9.frozen? ⟨w.heap.size, 0 + j, none⟩ = false := fun j hj => by
    rw [hds, arr8_length, hdl] at hj; exact R9.free j (by simpa using hj)
  have hsd : (Tryz.prog.info? 59).map (·.size) = some ds.length := by rw [hds, arr8_length, hdl]; exact size32
  have hfin := (R9.setCells (t := dd) (by simp [hdl])).get
  have K10 := K9.trans (Kept.setCells w.heap.size ds 0 w9) (T := fun _ => False) (fun _ _ h => h) (fun i hi e => by omega)
  have ho : ∀ v ∈ ds, v.oneCell' = true := by rw [hds]; exact arr8_one dd
  rw [← hds] at hfin
  rw [← hds]
  have Z1 := Lib.hid z1; have Z2 := Lib.hid z2; have HSD := Lib.hid hsd; have HF := Lib.hid hfin; have HK10 := Lib.hid K10; have HO2 := Lib.hid ho
  have HDS := Lib.hid hds; have HDD := Lib.hid hdd
  clear z1 z2 hsd hfin K10 ho hds hdd R9 K9 k9 HH2 HK2 HR2
  go_wp2_with (first | (refine wpList_store_at rfl 59 _ _ rfl w.heap.size 0 ds rfl rfl Z1.out Z2.out HO2.out HSD.out ?_))
  refine bodyPost_ret_by (v := .agg ds.toArray) ?_ ?_ ?_
  · exact results_cell_at Tryz.results57 _ _ w.heap.size ds _ rfl HF.out Tryz.underlying59 rfl HSD.out
  · rfl
  · exact ⟨by first | rfl | rw [HDS.out, HDD.out], HK10.out⟩
end Go.Proofs.YtjglnpijngdpkaaGreatDoor
