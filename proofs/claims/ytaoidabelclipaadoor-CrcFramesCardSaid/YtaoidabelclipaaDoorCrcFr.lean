/-
  An append of so many zero bytes; arbaclaw04.CrcFrames returns true.
-/
import Derived.Test.YtaoidabelclipaaDoorCrcA
import Derived.Test.YtaoidabelclipaaDoorCrcU
import Derived.Test.YtaoidabelclipaaDoorArgIn
import Derived.Lib.AppendZerosOnto
namespace Go.Proofs.YtaoidabelclipaaDoor
open Go.RowKit

theorem zero_cells (k : Nat) : Builtin.zeroCells (Value.int .u8 0).cells k = (bv (List.replicate k 0)).toArray := by
  apply Array.ext'
  show (Builtin.zeroCells #[Value.int .u8 0] k).toList = _
  simp only [Builtin.zeroCells, bv, List.map_replicate, Array.toList_map, Array.toList_range]
  apply List.ext_getElem
  · simp
  · intro i h1 h2
    simp [Nat.mod_one]

theorem append_zeros_room {P : Program} (w : World) (t tn ty e : TypeId) (i : TypeInfo) (ht : P.underlying t = some (.slice e)) (htn : P.underlying tn = some (.int .i64)) (hi : P.info? e = some i) (hz : i.zero = some (.int .u8 0)) (hs : i.size = 1) (hby : i.bytes = 1)
    (g sLen sCap : Nat) (cur : Array Value) (hg : w.heap[g]? = some (.cells cur e (0, 0))) (k : Nat) (h0 : 0 < k) (hk : k ≤ 1000000) (hroom : sLen + k ≤ sCap) (hfit : sLen + k ≤ cur.size) :
    (Builtin.append_ #[t, tn] ty #[.slice (some ⟨g, 0, none⟩) sLen sCap, .int .i64 k]).run P w =
      .ok (.slice (some ⟨g, 0, none⟩) (sLen + k) sCap) (w.setRow g (cur.toList.take sLen ++ bv (List.replicate k 0) ++ cur.toList.drop (sLen + k)).toArray) := by
  have hl : (bv (List.replicate k 0)).length = k := by simp [bv]
  have hst := run_storeCells_at P g sLen e (bv (List.replicate k 0)) 0 cur w hg (by rw [hl]; omega) (bv_oneCell _)
  rw [hl] at hst
  simp only [Nat.add_zero] at hst
  have hw : IntKind.i64.wrap (k : Int) = k := by rw [IntKind.wrap_i64]; omega
  have hneg : ¬ ((k : Int) < 0) := by omega
  have h48 : ¬ (281474976710656 < (k : Int)) := by omega
  have hn : k ≠ 0 := by omega
  have hzc : Builtin.zeroCells (Value.int .u8 0).cells k = (bv (List.replicate k 0)).toArray := zero_cells k
  simp [Builtin.append_, run_underlying ht, run_underlying htn, sizeOf, typeInfo, zeroValue, hi, hz, hs, hby, asInt, asIntOf, hw, hneg, hn, h48, hroom, hzc, Addr.add_lit, hst]

/-- 'append(v, make([]byte, k)...)' where v is a row of the call's own. -/
theorem append_zeros_run {W : World} {B : Nat} {v : Value} {xs : List Nat} (h : Fresh W B v xs) (k : Nat) (h0 : 0 < k) (hl : xs.length + k ≤ 1000000) (hB : B ≤ W.heap.size) :
    ∃ a c w', (Builtin.append_ #[22, 3] 22 #[v, .int .i64 k]).run Tryd.prog W = .ok (.slice a (xs ++ List.replicate k 0).length c) w' ∧ Fresh w' B (.slice a (xs ++ List.replicate k 0).length c) (xs ++ List.replicate k 0) ∧ Kept (blk v) W w' := by
  obtain ⟨i0, hi, hz0, hz1, hz2⟩ := info_parts info_u8c
  have hlen : (xs ++ List.replicate k 0).length = xs.length + k := by simp
  rw [hlen]
  have grown : ∀ old, old < xs.length + k → ∀ w', w' = (W.drew.alloc (.cells ((bv xs).toArray ++ Builtin.zeroCells (Value.int .u8 0).cells k ++ Builtin.zeroCells (Value.int .u8 0).cells (grownCap W (xs.length + k) old 5 - (xs.length + k))) 5)) →
      Fresh w' B (.slice (some ⟨W.heap.size, 0, none⟩) (xs.length + k) (grownCap W (xs.length + k) old 5)) (xs ++ List.replicate k 0) ∧ Kept (blk v) W w' := by
    intro old ho w' hw'
    have hge := grownCap_ge W (xs.length + k) old 5
    have hle := grownCap_le_maxLen W (xs.length + k) old 5 (by unfold maxLen; omega)
    subst hw'
    refine ⟨⟨⟨by rw [bv_length, hlen, Nat.mul_one], Or.inr ⟨W.heap.size, _, _, by rw [hlen], hB, heap_alloc_new W.drew _, by rw [hlen]; exact hge, hle, ?_, ?_⟩⟩, fun j hj => by simp [Value.ownBlock] at hj; omega⟩, ?_⟩
    · rw [Array.size_append, Array.size_append, size_zeroCells, size_zeroCells, show (Value.int .u8 0).cells.size = 1 from rfl, List.size_toArray, bv_length]; omega
    · rw [Nat.mul_one, hlen, zero_cells, bv_append, Array.toList_append, Array.toList_append]
      rw [List.take_append_of_le_length (by simp [bv])]
      exact List.take_of_length_le (by simp [bv])
    · exact (Kept.refl (blk v) W).drew.trans (Kept.alloc (fun _ => False) _ _) (fun _ _ h => h) (fun _ _ h => h.elim)
  rcases h.own.2 with ⟨hv, hx⟩ | ⟨g, cap, cur, hv, hb, hg, h1, h2, h3, h4⟩
  · have hx0 : xs = [] := List.eq_nil_of_length_eq_zero hx
    subst hv hx0
    have hr := Lib.run_append_nil_zeros (P := Tryd.prog) W 22 3 22 5 i0 _ .i64 .i64 Tryd.underlying22 Tryd.underlying3 hi hz0 k h0 (by omega) (by omega) (by rw [hz2]; omega)
    have hgr := grown 0 (by omega) _ rfl
    simp only [List.length_nil, Nat.zero_add, List.nil_append, show bv [] = [] from rfl, Array.empty_append] at hgr ⊢
    exact ⟨_, _, _, hr, hgr.1, hgr.2⟩
  · subst hv
    by_cases hroom : xs.length + k ≤ cap
    · have hr := append_zeros_room W 22 3 22 5 i0 Tryd.underlying22 Tryd.underlying3 hi hz0 hz1 hz2 g xs.length cap cur hg k h0 (by omega) hroom (by omega)
      refine ⟨_, _, _, hr, ⟨⟨by rw [bv_length, hlen, Nat.mul_one], Or.inr ⟨g, cap, _, by rw [hlen], hb, setRow_heap W g cur _ 5 _ hg, by rw [hlen]; exact hroom, h2, ?_, ?_⟩⟩, fun j hj => by simp [Value.ownBlock] at hj; omega⟩, ?_⟩
      · simp [bv]; omega
      · rw [Nat.mul_one] at h4 ⊢
        rw [hlen, h4, bv_append, List.take_append_of_le_length (by simp [bv])]
        exact List.take_of_length_le (by simp [bv])
      · exact ⟨rfl, rfl, rfl, by simp [World.setRow], fun i hi hn => setRow_other W g i _ (fun e => hn (by subst e; rfl))⟩
    · have hcell := h.own.cells (g := g) rfl
      have hold : (Builtin.firstCells i0.size xs.length (.slice (some ⟨g, 0, none⟩) xs.length cap)).run Tryd.prog W.drew = .ok (bv xs).toArray W.drew :=
        run_firstCells_some W.drew i0.size xs.length ⟨g, 0, none⟩ xs.length cap (bv xs) (by rw [bv_length, hz1, Nat.mul_one]) (fun j u hu => hcell j u hu)
      have hr := Lib.run_append_grow_zeros (P := Tryd.prog) W 22 3 22 5 i0 _ .i64 .i64 Tryd.underlying22 Tryd.underlying3 hi hz0 (some ⟨g, 0, none⟩) xs.length cap (bv xs) hold k h0 (by omega) (by omega) (by omega) (by rw [hz2]; omega) (growslice_fits (by omega) (by rw [hz2]; omega))
      have hgr := grown cap (by omega) _ rfl
      exact ⟨_, _, _, hr, hgr.1, hgr.2⟩
end Go.Proofs.YtaoidabelclipaaDoor
