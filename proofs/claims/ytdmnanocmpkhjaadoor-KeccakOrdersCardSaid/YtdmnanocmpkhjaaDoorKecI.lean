/-
  arbac/keccak: the digest's bytes.
-/
import Derived.Test.YtdmnanocmpkhjaaDoorKecA
namespace Go.Proofs.YtdmnanocmpkhjaaDoor
open Go.RowKit

def arr8 (s : List Nat) : List Value := s.map fun n : Nat => Value.int .u8 (n : Int)
theorem arr8_length (s : List Nat) : (arr8 s).length = s.length := by simp [arr8]
theorem arr8_get (s : List Nat) (i : Nat) (hi : i < s.length) : (arr8 s)[i]? = some (.int .u8 (s.getD i 0 : Nat)) := by simp [arr8, List.getD, hi]
theorem arr8_one (s : List Nat) : ∀ v ∈ arr8 s, v.oneCell' = true := by
  intro v hv
  simp only [arr8, List.mem_map] at hv
  obtain ⟨n, _, rfl⟩ := hv
  rfl
theorem blk_new (w : World) (cs : Array Value) (T : TypeId) (s : List Nat) (hcs : cs.toList = arr8 s) : Blk (w.alloc (.cells cs T)) w.heap.size 0 s := by
  refine ⟨fun i hi => ?_, fun i _ => World.frozen?_alloc_new _ _ _ _⟩
  rw [Nat.zero_add, cell_of_row _ w.heap.size i cs T (0, 0) (heap_alloc_new w _), ← Array.getElem?_toList, hcs]
  simp [arr8, List.getD, hi]
theorem Blk.set {w : World} {g off : Nat} {s : List Nat} (h : Blk w g off s) (i y : Nat) (hi : i < s.length) : Blk (w.setCell ⟨g, off + i, none⟩ (.int .u8 (y : Int))) g off (s.set i y) := by
  refine ⟨fun j hj => ?_, fun j hj => ?_⟩
  · rw [List.length_set] at hj
    by_cases e : i = j
    · subst e
      rw [World.cell?_setCell_same _ _ _ (h.cell i hi)]
      simp [List.getD, hi]
    · rw [World.cell?_setCell_other _ _ _ _ (fun e2 => by injection e2; omega), h.cell j hj]
      simp [List.getD, e]
  · rw [World.frozen?_setCell]; rw [List.length_set] at hj; exact h.free j hj
theorem Blk.setCells {w : World} {g off : Nat} {s t : List Nat} (h : Blk w g off s) (hl : s.length = t.length) : Blk (w.setCells g off (arr8 t)) g off t := by
  refine ⟨fun i hi => ?_, fun i hi => ?_⟩
  · have := World.cell?_setCells_in g (arr8 t) off w (fun j hj => by rw [h.cell j (by rw [arr8_length] at hj; omega)]; rfl) i (by rw [arr8_length]; exact hi)
    rw [this]
    simp [arr8, List.getD, hi]
  · rw [World.frozen?_setCells]; exact h.free i (by omega)
theorem Blk.get {w : World} {g off : Nat} {s : List Nat} (h : Blk w g off s) : ∀ j v, (arr8 s)[j]? = some v → w.cell? ⟨g, off + j, none⟩ = some v := by
  intro j v hv
  have hj : j < s.length := by
    have := (List.getElem?_eq_some_iff.1 hv).1
    rwa [arr8_length] at this
  rw [h.cell j hj, ← hv, arr8_get s j hj]

/-- The first 32 bytes of a state. -/
def dig (s : List Nat) : List Nat := (List.range 32).map fun i => ln s (i / 8) / 2 ^ (8 * (i % 8)) % 256
theorem dig_length (s : List Nat) : (dig s).length = 32 := by simp [dig]
theorem dig_lt (s : List Nat) : ∀ x ∈ dig s, x < 256 := by
  intro x hx
  simp only [dig, List.mem_map] at hx
  obtain ⟨i, _, rfl⟩ := hx
  exact Nat.mod_lt _ (by decide)
theorem dig_at (s : List Nat) (i : Nat) (hi : i < 32) : (dig s).getD i 0 = ln s (i / 8) / 2 ^ (8 * (i % 8)) % 256 := by simp [dig, List.getD, hi]
theorem byte_shift8 (y S b : Nat) (h : b = y / 2 ^ S % 256) : IntKind.u8.wrap ((y : Int) / 2 ^ S) = (b : Int) := by
  have h2 : (y : Int) / 2 ^ S = ((y / 2 ^ S : Nat) : Int) := by rw [Int.natCast_ediv, Int.natCast_pow]; rfl
  rw [h2, IntKind.wrap_u8, h, Int.natCast_emod]; rfl
theorem size32 : (Tryd.prog.info? 27).map (·.size) = some 32 := by kernel_rfl

set_option maxRecDepth 100000 in
set_option maxHeartbeats 1600000 in
theorem id_any (w : World) (g off : Nat) (s : List Nat) (h25 : s.length = 25) (h : Lanes w g off s) (hg : g < w.heap.size) :
    Calls Tryd.prog 15 #[.pointer (some ⟨g, off, none⟩)] w fun e w' => e = .returned (.agg (arr8 (dig s)).toArray) ∧ Kept (fun _ => False) w w' := by
  have HH := Lib.hid h; have H25 := Lib.hid h25
  clear h h25
  go_enter Tryd.func15, Tryd.ntmps15
  go_wp2_with fail
  go_loopw [4, 5] (fun _ i W => ∃ k : Nat, k ≤ 32 ∧ i = .int .i64 k ∧ Blk W (w.heap.size + 1) 0 ((dig s).take k ++ List.replicate (32 - k) 0) ∧ Blk W w.heap.size 0 (List.replicate 32 0) ∧ Kept (fun _ => False) w W ∧ w.heap.size + 1 < W.heap.size) (fun _ i _ => 32 - (intOf i).toNat)
  case atStart =>
    refine ⟨0, by omega, rfl, ?_, ?_, (Kept.alloc _ _ _).then (Kept.alloc _ _ _), by simp⟩
    · have := blk_new (w.alloc (.cells (arr8 (List.replicate 32 0)).toArray 27)) (arr8 (List.replicate 32 0)).toArray 27 (List.replicate 32 0) rfl
      rw [show (w.alloc (.cells (arr8 (List.replicate 32 0)).toArray 27)).heap.size = w.heap.size + 1 by simp] at this
      exact this
    · exact (blk_new w (arr8 (List.replicate 32 0)).toArray 27 (List.replicate 32 0) rfl).kept (Kept.alloc (fun _ => False) _ _) (by simp) (fun h => h)
  case round =>
    obtain ⟨k, hk, rfl, hm, hz, hkw, hsz⟩ := hrel
    have hlen : ((dig s).take k ++ List.replicate (32 - k) 0).length = 32 := by simp [dig_length]; omega
    by_cases hlt : k < 32
    · have hs1 := HH.out.kept hkw hg (fun h => h)
      obtain ⟨q, hq⟩ : ∃ q, q = k / 8 := ⟨_, rfl⟩
      obtain ⟨r, hr⟩ : ∃ r, r = k % 8 := ⟨_, rfl⟩
      obtain ⟨n, hnn⟩ : ∃ n, n = 8 * r := ⟨_, rfl⟩
      have c1 := hs1.cell q (by have := H25.out; omega)
      obtain ⟨v, hv⟩ : ∃ v, v = s.getD q 0 := ⟨_, rfl⟩
      rw [← hv] at c1
      obtain ⟨b, hb⟩ : ∃ b, b = v / 2 ^ n % 256 := ⟨_, rfl⟩
      have hdk : (dig s).getD k 0 = b := by rw [dig_at s k hlt, hb, hv, hnn, hr, hq]; rfl
      have d := hm.cell k (by omega)
      have f := hm.free k (by omega)
      have hset := hm.set k b (by omega)
      rw [Nat.zero_add] at d f hset
      rw [← hdk, fill_set (dig s) 32 k (dig_length s) hlt] at hset
      rw [hdk] at hset
      generalize ((dig s).take k ++ List.replicate (32 - k) 0).getD k 0 = old at d
      have kr := Kept.setCell (fun k => k = w.heap.size + 1) wr ⟨w.heap.size + 1, k, none⟩ (.int .u8 (b : Int)) rfl
      have Z2 := hz.kept kr (by omega) (by omega)
      have K2 := hkw.trans kr (T := fun _ => False) (fun _ _ h => h) (fun i hi e => by omega)
      have hsz2 := Nat.lt_of_lt_of_le hsz kr.size
      have bs := byte_shift8 v n b hb
      have q1 : (k : Int).tdiv 8 = (q : Int) := by rw [Int.tdiv_eq_ediv_of_nonneg (by omega)]; omega
      have q2 : (k : Int) / 8 = (q : Int) := by omega
      have r1 : (k : Int).tmod 8 = (r : Int) := by rw [Int.tmod_eq_emod_of_nonneg (by omega)]; omega
      have r2 : (k : Int) % 8 = (r : Int) := by omega
      have n1 : IntKind.i64.wrap ((r : Int) * 8) = (n : Int) := by rw [IntWalk.i64_in _ (by omega)]; omega
      have w2 : IntKind.i64.wrap (q : Int) = (q : Int) := IntWalk.i64_in _ (by omega)
      have m0 : (k : Int) < 32 := by omega
      have m1 : (0 : Int) ≤ k := by omega
      have m2 : (0 : Int) ≤ q := by omega
      have m3 : (q : Int) < 25 := by omega
      have m4 : (0 : Int) ≤ n := by omega
      have m5 : n < 64 := by omega
      have HS := Lib.hid hset; have HZ2 := Lib.hid Z2; have HK2 := Lib.hid K2
      clear hset Z2 K2 kr hm hz hkw hs1 hdk hb hv hlen hnn hr hq
      go_wp2_with fail
      go_roundw
      case rel =>
        first
          | exact ⟨k + 1, by omega, by go_num, HS.out, HZ2.out, HK2.out, hsz2⟩
          | ((repeat apply Exists.intro); exact ⟨⟨k + 1, by omega, by go_num, HS.out, HZ2.out, HK2.out, hsz2⟩, rfl⟩)
      case measure => simp [intOf]; omega
    · obtain rfl : k = 32 := by omega
      have hfull : (dig s).take 32 ++ List.replicate (32 - 32) 0 = dig s := by simp [List.take_of_length_le, dig_length]
      rw [hfull] at hm
      have hml := dig_length s
      have hg1 := hm.get
      have z1 : ∀ j, j < (arr8 (dig s)).length → (wr.cell? ⟨w.heap.size, 0 + j, none⟩).isSome = true := fun j hj => by
        rw [arr8_length, hml] at hj; rw [hz.cell j (by simpa using hj)]; rfl
      have z2 : ∀ j, j < (arr8 (dig s)).length → wr.frozen? ⟨w.heap.size, 0 + j, none⟩ = false := fun j hj => by
        rw [arr8_length, hml] at hj; exact hz.free j (by simpa using hj)
      have hsz25 : (Tryd.prog.info? 27).map (·.size) = some (arr8 (dig s)).length := by rw [arr8_length, hml]; exact size32
      have hfin := (hz.setCells (t := dig s) (by simp [hml])).get
      have kr := Kept.setCells w.heap.size (arr8 (dig s)) 0 wr
      have K2 := hkw.trans kr (T := fun _ => False) (fun _ _ h => h) (fun i hi e => by omega)
      have G1 := Lib.hid hg1; have Z1 := Lib.hid z1; have Z2 := Lib.hid z2; have HF := Lib.hid hfin; have HK2 := Lib.hid K2; have HS25 := Lib.hid hsz25
      have hone := arr8_one (dig s)
      have HO := Lib.hid hone
      clear hg1 z1 z2 hfin K2 kr hm hz hkw hfull hml hone hsz25 hlen
      obtain ⟨cs, hcs⟩ : ∃ cs, cs = arr8 (dig s) := ⟨_, rfl⟩
      rw [← hcs] at G1 Z1 Z2 HF HK2 HS25 HO
      have HCS := Lib.hid hcs; clear hcs
      go_wp2_with (first | (refine wpList_load_at rfl 27 _ rfl (w.heap.size + 1) 0 rfl cs _ G1.out Tryd.underlying27 rfl HS25.out ?_) | (refine wpList_store_at rfl 27 _ _ rfl w.heap.size 0 cs rfl rfl Z1.out Z2.out HO.out HS25.out ?_))
      refine bodyPost_ret_by (v := .agg cs.toArray) ?_ ?_ ?_
      · exact results_cell_at Tryd.results15 _ _ w.heap.size cs _ rfl HF.out Tryd.underlying27 rfl HS25.out
      · rfl
      · exact ⟨by rw [HCS.out], HK2.out⟩
end Go.Proofs.YtdmnanocmpkhjaaDoor
