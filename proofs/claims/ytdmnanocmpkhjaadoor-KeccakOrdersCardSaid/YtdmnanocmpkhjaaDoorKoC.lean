/-
  bytes.Compare, keccak's ID.Compare, the reference's Compare.
-/
import Derived.Test.YtdmnanocmpkhjaaDoorKoM
import Derived.Test.YtdmnanocmpkhjaaDoorKecZ
import Derived.Lib.BytesEntry
import Derived.Laws.Externs
namespace Go.Proofs.YtdmnanocmpkhjaaDoor
open Go.RowKit
set_option linter.unusedVariables false

theorem bytes_back (xs : List Nat) (h : ∀ x ∈ xs, x < 256) : (Lib.bytesOf (xs.map fun n : Nat => (n : Int))).map UInt8.toNat = xs := by
  unfold Lib.bytesOf
  rw [List.map_map, List.map_map]
  conv => rhs; rw [← List.map_id xs]
  refine List.map_congr_left fun x hx => ?_
  have := h x hx
  simp
  omega
theorem load_reads {P : Program} {w : World} {v : Value} {xs : List Nat} (h : Reads w v xs) : (Extern.Bytes.bytesOf v).run P w = .ok ⟨(Lib.bytesOf (xs.map fun n : Nat => (n : Int))).toArray⟩ w := by
  rcases h with ⟨rfl, rfl⟩ | ⟨g, off, cap, rfl, h1, h2, h3, h4⟩
  · rfl
  · have hl := Lib.run_loadBytesX (P := P) w (xs.map fun n : Nat => (n : Int)) ⟨g, off, none⟩ .empty (fun j x hj => by
      have hjl : j < xs.length := by
        have := (List.getElem?_eq_some_iff.1 hj).1
        simpa using this
      have e : (⟨g, off, none⟩ : Addr).add j = ⟨g, off + j, none⟩ := by unfold Addr.add; split <;> simp_all
      rw [e, h4 j hjl]
      simp [List.getD, hjl] at hj ⊢
      exact hj)
    rw [List.length_map] at hl
    change (Extern.Bytes.loadBytes ⟨g, off, none⟩ xs.length .empty).run P w = _
    rw [hl]
    congr 1
    apply ByteArray.ext
    show (#[] : Array UInt8) ++ _ = _
    simp
theorem run_cmp {P : Program} {w : World} {v u : Value} {xs ys : List Nat} (hv : Reads w v xs) (hu : Reads w u ys) (hx : ∀ x ∈ xs, x < 256) (hy : ∀ y ∈ ys, y < 256) :
    (Extern.BytealgCompare.compare #[v, u]).run P w = .ok (.int .i64 (cmpL xs ys)) w := by
  change Sem.run P (do pure (goInt (Extern.BytealgCompare.cmp (← Extern.Bytes.bytesOf v) (← Extern.Bytes.bytesOf u)))) w = _
  simp only [Sem.run_bind, Sem.run_pure, Result.andThen, load_reads hv, load_reads hu]
  rw [Lib.cmp_eq, cmp_u8]
  have e1 := bytes_back xs hx
  have e2 := bytes_back ys hy
  simp only [e1, e2]
  rfl

set_option maxRecDepth 100000 in
theorem bcmp_any (w : World) (v u : Value) (xs ys : List Nat) (hv : Reads w v xs) (hu : Reads w u ys) (hx : ∀ x ∈ xs, x < 256) (hy : ∀ y ∈ ys, y < 256) :
    Calls Tryd.prog 9 #[v, u] w fun e w' => e = .returned (.int .i64 (cmpL xs ys)) ∧ w = w' := by
  obtain ⟨a, c, rfl⟩ := hv.form
  obtain ⟨b, d, rfl⟩ := hu.form
  have HV := Lib.hid hv; have HU := Lib.hid hu; have HX := Lib.hid hx; have HY := Lib.hid hy
  clear hv hu hx hy
  go_enter Tryd.func9, Tryd.ntmps9
  go_wp2_with fail
  rw [run_callFunc_extern Tryd.func12 (by kernel_rfl) (by kernel_rfl) (by kernel_rfl) (e := Extern.BytealgCompare.compare) (by kernel_rfl), run_cmp HV.out HU.out HX.out HY.out]
  simp only [Result.andThen]
  rw [Oper.upon_value]
  go_wp2_with fail
  go_ret
  exact ⟨rfl, rfl⟩
/-- A block of bytes, sliced, reads as its bytes. -/
theorem Blk.readsK {w : World} {g off n : Nat} {s : List Nat} (h : Blk w g off s) (hn : s.length = n) (hm : n ≤ maxLen) (hg : g < w.heap.size) : Reads w (.slice (some ⟨g, off, none⟩) n n) s :=
  Or.inr ⟨g, off, n, by rw [hn], by omega, hm, hg, h.cell⟩

set_option maxRecDepth 100000 in
set_option maxHeartbeats 1600000 in
theorem idcmp_any (x y : List Nat) (hx : x.length = 32) (hy : y.length = 32) (bx : ∀ z ∈ x, z < 256) (by' : ∀ z ∈ y, z < 256) (w : World) :
    Calls Tryd.prog 5 #[.agg (arr8 x).toArray, .agg (arr8 y).toArray] w fun e w' => e = .returned (.int .i64 (cmpL x y)) ∧ Kept (fun _ => False) w w' := by
  have B1 := (blk_new w (arr8 x).toArray 27 x (by simp)).kept (Kept.alloc (fun _ => False) _ (.cells (arr8 y).toArray 27)) (by simp) (fun h => h)
  have B2 := blk_new (w.alloc (.cells (arr8 x).toArray 27)) (arr8 y).toArray 27 y (by simp)
  have e2 : (w.alloc (.cells (arr8 x).toArray 27)).heap.size = w.heap.size + 1 := by simp
  rw [e2] at B2
  have HK : Hid (Kept (fun _ => False) w ((w.alloc (.cells (arr8 x).toArray 27)).alloc (.cells (arr8 y).toArray 27))) := (Kept.alloc _ _ _).then (Kept.alloc _ _ _)
  have HL : Hid (∀ n, Calls Tryd.prog 9 #[.slice (some ⟨w.heap.size, 0, none⟩) 32 32, .slice (some ⟨w.heap.size + 1, 0, none⟩) 32 32] (((w.alloc (.cells (arr8 x).toArray 27)).alloc (.cells (arr8 y).toArray 27)).drewN n) fun e w' => e = .returned (.int .i64 (cmpL x y)) ∧ ((w.alloc (.cells (arr8 x).toArray 27)).alloc (.cells (arr8 y).toArray 27)).drewN n = w') := fun n =>
    bcmp_any _ _ _ x y ((B1.kept ((Kept.refl (fun _ => False) _).drewN n) (by simp; omega) (fun h => h)).readsK hx (by simp [maxLen]) (by show w.heap.size < (World.alloc _ _).heap.size; simp; omega)) ((B2.kept ((Kept.refl (fun _ => False) _).drewN n) (by simp) (fun h => h)).readsK hy (by simp [maxLen]) (by show w.heap.size + 1 < (World.alloc _ _).heap.size; simp)) bx by'
  clear B1 B2 e2
  go_enter Tryd.func5, Tryd.ntmps5
  go_wp2_with fail
  go_quiet ((go_at_call 9; with_reducible exact quiet_leftK (HL.out _)))
  go_wp2_with fail
  go_ret
  exact ⟨rfl, HK.out.drewN _⟩

set_option maxRecDepth 100000 in
set_option maxHeartbeats 1600000 in
theorem rcmp_any (x y : List Nat) (hx : x.length = 32) (hy : y.length = 32) (w : World) :
    Calls Tryd.prog 6 #[.agg (arr8 x).toArray, .agg (arr8 y).toArray] w fun e w' => e = .returned (.int .i64 (cmpL x y)) ∧ Kept (fun _ => False) w w' := by
  have B1 := (blk_new w (arr8 x).toArray 22 x (by simp)).kept (Kept.alloc (fun _ => False) _ (.cells (arr8 y).toArray 22)) (by simp) (fun h => h)
  have B2 := blk_new (w.alloc (.cells (arr8 x).toArray 22)) (arr8 y).toArray 22 y (by simp)
  have e2 : (w.alloc (.cells (arr8 x).toArray 22)).heap.size = w.heap.size + 1 := by simp
  rw [e2] at B2
  have HK : Hid (Kept (fun _ => False) w ((w.alloc (.cells (arr8 x).toArray 22)).alloc (.cells (arr8 y).toArray 22))) := (Kept.alloc _ _ _).then (Kept.alloc _ _ _)
  have hs2 : w.heap.size + 1 < ((w.alloc (.cells (arr8 x).toArray 22)).alloc (.cells (arr8 y).toArray 22)).heap.size := by simp
  go_enter Tryd.func6, Tryd.ntmps6
  go_wp2_with fail
  generalize (w.alloc (.cells (arr8 x).toArray 22)).alloc (.cells (arr8 y).toArray 22) = w2 at B1 B2 HK hs2 ⊢
  have HB1 := Lib.hid B1; have HB2 := Lib.hid B2
  clear B1 B2 e2
  go_loopw [5] (fun iv wr => ∃ k : Nat, k ≤ 32 ∧ iv = .int .i64 k ∧ x.take k = y.take k ∧ Hid (Kept (fun _ => False) w2 wr)) (fun iv _ => 32 - (intOf iv).toNat)
  case atStart => exact ⟨0, by omega, rfl, rfl, Kept.refl _ _⟩
  case round =>
    obtain ⟨k, hk, rfl, htk, hkw⟩ := hrel
    have HTK := Lib.hid htk
    clear htk
    by_cases hlt : k < 32
    · have t0 : (0 : Int) ≤ (k : Int) := by omega
      have t1 : (k : Int) < 32 := by omega
      have C1 := (HB1.out.kept hkw.out (by omega) (fun h => h)).cell k (by omega)
      have C2 := (HB2.out.kept hkw.out (by omega) (fun h => h)).cell k (by omega)
      rw [Nat.zero_add] at C1 C2
      have hd := cmp_drop x y k (by omega) (by omega) HTK.out
      have hnx : x.getD k 0 = y.getD k 0 → x.take (k + 1) = y.take (k + 1) := fun e => by
        rw [List.take_succ_eq_append_getElem (by omega), List.take_succ_eq_append_getElem (by omega), HTK.out]
        simp [List.getD, hx, hy, hlt] at e
        rw [e]
      generalize x.getD k 0 = p at C1 hd hnx
      generalize y.getD k 0 = q at C2 hd hnx
      have HD := Lib.hid hd; have HN := Lib.hid hnx
      clear hd hnx
      by_cases h1 : p < q
      · have l1 : (p : Int) < (q : Int) := by omega
        have hD := HD.out
        rw [if_pos h1] at hD
        have HDD := Lib.hid hD
        clear h1 hD HD HN
        go_wp2_with fail
        go_quiet (fail)
        go_wp2_with fail
        go_ret
        exact ⟨congrArg (fun z => Ending.returned (.int .i64 z)) HDD.out.symm, (HK.out.then hkw.out).drewN _⟩
      · have l1 : ¬ (p : Int) < (q : Int) := by omega
        have hD := HD.out
        rw [if_neg h1] at hD
        by_cases h2 : q < p
        · have l2 : (q : Int) < (p : Int) := by omega
          rw [if_pos h2] at hD
          have HDD := Lib.hid hD
          clear h1 h2 hD HD HN
          go_wp2_with fail
          go_quiet (fail)
          have C3 : (wr.drewN nq).cell? ⟨w.heap.size, k, none⟩ = some (.int .u8 (p : Nat)) := C1
          have C4 : (wr.drewN nq).cell? ⟨w.heap.size + 1, k, none⟩ = some (.int .u8 (q : Nat)) := C2
          have KW : Hid (Kept (fun _ => False) w (wr.drewN nq)) := (HK.out.then hkw.out).drewN _
          clear C1 C2
          generalize wr.drewN nq = wq at C3 C4 KW ⊢
          go_wp2_with fail
          go_quiet (fail)
          go_wp2_with fail
          go_ret
          exact ⟨congrArg (fun z => Ending.returned (.int .i64 z)) HDD.out.symm, KW.out.drewN _⟩
        · have l2 : ¬ (q : Int) < (p : Int) := by omega
          have HNN := Lib.hid (HN.out (by omega))
          clear h1 h2 hD HD HN
          go_wp2_with fail
          go_quiet (fail)
          have C3 : (wr.drewN nq).cell? ⟨w.heap.size, k, none⟩ = some (.int .u8 (p : Nat)) := C1
          have C4 : (wr.drewN nq).cell? ⟨w.heap.size + 1, k, none⟩ = some (.int .u8 (q : Nat)) := C2
          have KW : Hid (Kept (fun _ => False) w2 (wr.drewN nq)) := hkw.out.drewN _
          clear C1 C2
          generalize wr.drewN nq = wq at C3 C4 KW ⊢
          go_wp2_with fail
          go_quiet (fail)
          have KX : Hid (Kept (fun _ => False) w2 (wq.drewN nq)) := KW.out.drewN _
          go_wp2_with fail
          go_roundw
          case rel => exact ⟨k + 1, by omega, by go_num, HNN.out, KX⟩
          case measure => simp [intOf]; omega
    · obtain rfl : k = 32 := by omega
      have he : x = y := by
        have := HTK.out
        rwa [List.take_of_length_le (by omega), List.take_of_length_le (by omega)] at this
      have h0 := cmp_self y
      have HE := Lib.hid he; have H0 := Lib.hid h0
      clear he h0
      go_wp2_with fail
      go_ret
      exact ⟨congrArg (fun z => Ending.returned (.int .i64 z)) (show (0 : Int) = cmpL x y by rw [HE.out]; exact H0.out.symm), HK.out.then hkw.out⟩
end Go.Proofs.YtdmnanocmpkhjaaDoor
