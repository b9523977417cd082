/-
  membership: Bytes.
-/
import Derived.Test.YtccanbjnbmihgaaDoorMbR
import Derived.Test.YtccanbjnbmihgaaDoorMake
import Derived.Test.YtccanbjnbmihgaaDoorUint
namespace Go.Proofs.YtccanbjnbmihgaaDoor
open Go.RowKit Go.Shelf
set_option linter.unusedVariables false
set_option linter.unusedSimpArgs false

theorem take_getDE (l : List Ent) (j : Nat) (hj : j < l.length) : l.take (j + 1) = l.take j ++ [l.getD j ent0] := by
  rw [List.take_add_one]; simp [List.getD, hj]
theorem getD_memE (l : List Ent) (k : Nat) (hk : k < l.length) : l.getD k ent0 ∈ l := by simp [List.getD, hk]
/-- The encodings of entries. -/
def encOne (x : Ent) : List Nat := enc x.u.toNat ++ enc x.r.toNat ++ enc x.t.toNat
def encE (l : List Ent) : List Nat := l.flatMap encOne
def bytesE (l : List Ent) : List Nat := enc l.length ++ encE l
theorem encE_take (l : List Ent) (k : Nat) (hk : k < l.length) : encE (l.take (k + 1)) = encE (l.take k) ++ encOne (l.getD k ent0) := by
  unfold encE
  rw [take_getDE l k hk, List.flatMap_append]
  simp
theorem fitE {H : Nat → List Ent} (h : Rows2 H) : ∀ x ∈ allE H, 0 ≤ x.u ∧ x.u ≤ 256 ∧ 1 ≤ x.r ∧ x.r ≤ 63 ∧ 0 ≤ x.t ∧ x.t ≤ 30000 := fun x hx => by
  obtain ⟨u, hu, hx⟩ := (allE_mem x).1 hx
  have h1 := h.user u hu x hx
  have h2 := h.fit u hu x hx
  omega
theorem encOne_len (x : Ent) (h : 0 ≤ x.u ∧ x.u ≤ 256 ∧ 1 ≤ x.r ∧ x.r ≤ 63 ∧ 0 ≤ x.t ∧ x.t ≤ 30000) : (encOne x).length ≤ 30 := by
  unfold encOne
  have h1 := enc_len (v := x.u.toNat) (by omega)
  have h2 := enc_len (v := x.r.toNat) (by omega)
  have h3 := enc_len (v := x.t.toNat) (by omega)
  simp only [List.length_append]; omega
theorem encE_len (l : List Ent) (h : ∀ x ∈ l, 0 ≤ x.u ∧ x.u ≤ 256 ∧ 1 ≤ x.r ∧ x.r ≤ 63 ∧ 0 ≤ x.t ∧ x.t ≤ 30000) : (encE l).length ≤ 30 * l.length := by
  induction l with
  | nil => simp [encE]
  | cons x t ih =>
    have := ih (fun y hy => h y (by simp [hy]))
    have h2 := encOne_len x (h x (by simp))
    have e : encE (x :: t) = encOne x ++ encE t := rfl
    rw [e, List.length_append, List.length_cons]; omega

theorem box3m (w : World) (u r t : Nat) (T : TypeId) :
    (w.alloc (.cells #[.int .i64 (u : Int), .int .i64 (r : Int), .int .i64 (t : Int)] T)).cell? ⟨w.heap.size, 0, none⟩ = some (.int .i64 u) ∧ (w.alloc (.cells #[.int .i64 (u : Int), .int .i64 (r : Int), .int .i64 (t : Int)] T)).cell? ⟨w.heap.size, 1, none⟩ = some (.int .i64 r) ∧ (w.alloc (.cells #[.int .i64 (u : Int), .int .i64 (r : Int), .int .i64 (t : Int)] T)).cell? ⟨w.heap.size, 2, none⟩ = some (.int .i64 t) :=
  ⟨by go_simp, by go_simp, by go_simp⟩
/-- A writer of the call's own. -/
structure WKm (w wr : World) (wb : Nat) (v : Value) (xs : List Nat) : Prop where
  wri : Wr wr wb v wb xs
  kept : Kept (fun _ => False) w wr
  base : w.heap.size ≤ wb
theorem WKm.step {w w1 w2 : World} {wb : Nat} {v v' : Value} {xs ys : List Nat} (h : WKm w w1 wb v xs) (hw : Wr w2 wb v' wb ys) (hs : WStep w1 w2 wb v v') : WKm w w2 wb v' ys := by
  have hb := h.base
  refine ⟨hw, h.kept.trans hs.kept (fun _ _ h => h) (fun i hi e => ?_), hb⟩
  rcases e with e | e
  · omega
  · have := (h.wri.own.lt _ e).1; omega
theorem WKm.on {w a b : World} {wb : Nat} {v : Value} {xs : List Nat} (h : WKm w a wb v xs) (hk : Kept (fun _ => False) a b) : WKm w b wb v xs :=
  ⟨⟨(hk.cell (World.block_lt_of_cell? a _ h.wri.cell) (fun h => h)).trans h.wri.cell, (hk.frozen (p := ⟨wb, 0, none⟩) (World.block_lt_of_cell? a _ h.wri.cell) (fun h => h)).trans h.wri.free, hk.owns h.wri.own (fun _ _ h => h), h.wri.apart, h.wri.base⟩, h.kept.then hk, h.base⟩

/-- A block that the writer does not touch. -/
def FarW (w : World) (wb : Nat) (u : Value) (q : Nat) : Prop := q < w.heap.size ∧ q ≠ wb ∧ u.ownBlock ≠ some q
theorem FarW.step {w1 w2 : World} {wb : Nat} {u v : Value} {q : Nat} (h : FarW w1 wb u q) (hs : WStep w1 w2 wb u v) : FarW w2 wb v q := by
  refine ⟨Nat.lt_of_lt_of_le h.1 hs.kept.size, h.2.1, fun e => ?_⟩
  rcases hs.row with hr | hr
  · exact h.2.2 (hr ▸ e)
  · have := hr q e; have := h.1; omega
theorem FarW.on {w1 w2 : World} {wb : Nat} {u : Value} {q : Nat} (h : FarW w1 wb u q) (hk : w1.heap.size ≤ w2.heap.size) : FarW w2 wb u q := ⟨Nat.lt_of_lt_of_le h.1 hk, h.2⟩
theorem FarW.cell {w1 w2 : World} {wb : Nat} {u v : Value} {q o : Nat} {y : Value} (h : FarW w1 wb u q) (hs : WStep w1 w2 wb u v) (hc : w1.cell? ⟨q, o, none⟩ = some y) : w2.cell? ⟨q, o, none⟩ = some y :=
  (hs.kept.cell (p := ⟨q, o, none⟩) h.1 (fun e => e.elim (fun e => h.2.1 e) (fun e => h.2.2 e))).trans hc
theorem FarW.ents {w1 w2 : World} {wb : Nat} {u v vr : Value} {l : List Ent} (h : ∀ q, vr.ownBlock = some q → FarW w1 wb u q) (hs : WStep w1 w2 wb u v) (he : Ents w1 vr l) : Ents w2 vr l :=
  he.kept hs.kept (fun q hq e => e.elim (fun e => (h q hq).2.1 e) (fun e => (h q hq).2.2 e))

set_option maxRecDepth 100000 in
set_option maxHeartbeats 3200000 in
theorem mbytes_nil (w : World) : Calls Tryd.prog 40 #[.pointer none] w fun e w' => e = .returned (.slice none 0 0) ∧ w = w' := by
  go_enter Tryd.func40, Tryd.ntmps40
  go_wp2_with fail
  go_ret
  exact ⟨rfl, rfl⟩

set_option maxRecDepth 100000 in
set_option maxHeartbeats 3200000 in
theorem mbytes_any (w : World) (v : Value) (M : Nat) (H : Nat → List Ent) (h : BookV w v M H) (hM : M ≤ 1000) :
    Calls Tryd.prog 40 #[v] w fun e w' => ∃ v', e = .returned v' ∧ Fresh w' w.heap.size v' (bytesE (allE H)) ∧ Kept (fun _ => False) w w' := by
  have HB := Lib.hid h
  have HFi : Hid (∀ x ∈ allE H, 0 ≤ x.u ∧ x.u ≤ 256 ∧ 1 ≤ x.r ∧ x.r ≤ 63 ∧ 0 ≤ x.t ∧ x.t ≤ 30000) := by
    obtain ⟨_, _, _, _, hr⟩ := h
    exact Lib.hid (fitE hr)
  have hlen : (allE H).length ≤ 257000 := by
    obtain ⟨_, _, _, hb, _⟩ := h
    have := lenTo_le (H := H) (M := M) 257 (fun u hu => hb.len u hu)
    have : 257 * M ≤ 257 * 1000 := Nat.mul_le_mul_left 257 hM
    have e : (allE H).length = lenTo H 257 := rfl
    omega
  obtain ⟨bb, hv, rfl, -, -⟩ := h
  unfold bytesE
  have HEn : Hid (∀ W, Kept (fun _ => False) w W → Calls Tryd.prog 44 #[.pointer (some ⟨bb, 0, none⟩)] W fun e w' => ∃ v', e = .returned v' ∧ OwnE 87 W.heap.size w' v' (allE H) ∧ Kept (fun _ => False) W w') := Lib.hid fun W kw => entries_any W _ M H (HB.out.kept kw) hM
  have HLe : Hid (∀ W, Kept (fun _ => False) w W → Calls Tryd.prog 36 #[.pointer (some ⟨bb, 0, none⟩)] W fun e w' => e = .returned (.int .i64 ((allE H).length : Nat)) ∧ W = w') := Lib.hid fun W kw => mlen_any W _ M H (HB.out.kept kw) hM
  generalize allE H = l at *
  obtain ⟨N, hN⟩ : ∃ N, N = l.length := ⟨_, rfl⟩
  have htk : ∀ k, (encE (l.take k)).length ≤ 30 * N := fun k => by
    have h1 := encE_len (l.take k) (fun x hx => HFi.out x (List.mem_of_mem_take hx))
    have h2 : (l.take k).length ≤ N := by rw [hN, List.length_take]; omega
    omega
  rw [← hN] at hlen HLe ⊢
  have hw : IntKind.u64.wrap (N : Int) = (N : Int) := IntWalk.u64_in _ (by omega)
  have he := enc_len (v := N) (by omega)
  obtain ⟨ys, hys⟩ : ∃ ys, ys = enc N := ⟨_, rfl⟩
  have HU := fun (w : World) (wb : Nat) (v : Value) (h : Wr w wb v wb []) => uint_any N w wb v wb [] h (by simp) (by show N < 18446744073709551616; omega)
  rw [← hys] at he HU ⊢
  have HN := Lib.hid hN; have HTK := Lib.hid htk; have HHU := Lib.hid HU
  clear hN htk HU hys HB
  go_enter Tryd.func40, Tryd.ntmps40
  go_wp2_with fail
  refine (newWriter_any w).mono ?_
  rintro e w1 ⟨rfl, hw1⟩
  have H1 : Hid (WKm w w1 w.heap.size (.slice none 0 0) []) := ⟨by rw [hw1]; exact wr_new w w.heap.size (Nat.le_refl _), by rw [hw1]; exact Kept.alloc _ _ _, Nat.le_refl _⟩
  clear hw1
  obtain ⟨wb, hwb⟩ : ∃ wb, wb = w.heap.size := ⟨_, rfl⟩
  rw [← hwb] at H1 ⊢
  have hge : w.heap.size ≤ wb := by omega
  clear hwb
  go_wp2_with fail
  refine (HLe.out w1 H1.out.kept).mono ?_
  rintro e w2 ⟨rfl, rfl⟩
  go_wp2_with fail
  refine (HHU.out w1 wb _ H1.out.wri).mono ?_
  rintro e w2 ⟨rfl, v2, hwr2, hs2⟩
  rw [List.nil_append] at hwr2
  have H2 := Lib.hid (H1.out.step hwr2 hs2)
  clear hwr2 hs2 H1 hw
  go_wp2_with fail
  refine (HEn.out w2 H2.out.kept).mono ?_
  rintro e w3 ⟨v3, rfl, o3, k3⟩
  obtain ⟨a, c, rfl, hc1, hc2⟩ := o3.form
  rw [← HN.out] at hc1 ⊢
  have hS := o3.ents
  rw [← HN.out] at hS
  have HS := Lib.hid hS
  have K3 := Lib.hid (H2.out.kept.then k3)
  have HFar : Hid (∀ q, (Value.slice a N c).ownBlock = some q → FarW w3 wb v2 q) := Lib.hid fun q hq => by
    have h1 := World.ownsRow.lt o3 q (by rw [← HN.out]; exact hq)
    have h2 := World.block_lt_of_cell? w2 _ H2.out.wri.cell
    exact ⟨h1.2, by have h2 : wb < w2.heap.size := h2; omega, fun e => by have := (H2.out.wri.own.lt q e).2; omega⟩
  have H3 : Hid (∃ u, WKm w w3 wb u (ys ++ encE (l.take 0)) ∧ ∀ q, (Value.slice a N c).ownBlock = some q → FarW w3 wb u q) := ⟨v2, by rw [List.take_zero]; simpa [encE] using H2.out.on k3, HFar.out⟩
  unfold maxLen at hc2
  have hws : wb < w3.heap.size := by
    obtain ⟨u, hu, _⟩ := H3.out
    exact World.block_lt_of_cell? w3 _ hu.wri.cell
  clear o3 k3 hS H2 HFar
  go_wp2_with fail
  go_loopw [17] (fun iv wr => ∃ k : Nat, k ≤ N ∧ iv = .int .i64 k ∧ Hid (∃ u, WKm w wr wb u (ys ++ encE (l.take k)) ∧ ∀ q, (Value.slice a N c).ownBlock = some q → FarW wr wb u q) ∧ Hid (Ents wr (.slice a N c) l)) (fun iv _ => N - (intOf iv).toNat)
  case atStart => exact ⟨0, by omega, rfl, H3, HS⟩
  case round =>
    obtain ⟨k, hk, rfl, hinv, hents⟩ := hrel
    obtain ⟨u, hin, hfar⟩ := hinv.out
    have HFr := Lib.hid hfar
    clear hfar
    have HIN := Lib.hid hin
    have hkl := HTK.out k
    clear hin hinv H3
    by_cases hlt : k < N
    · have l1 : (k : Int) < (N : Int) := by omega
      have l0 : (0 : Int) ≤ (k : Int) := by omega
      obtain ⟨gs, os, rfl, hg, hc⟩ := hents.out.at (k := k) (by have := HN.out; omega)
      have het := encE_take l k (by have := HN.out; omega)
      have hfit := HFi.out (l.getD k ent0) (getD_memE l k (by have := HN.out; omega))
      have HET := Lib.hid het
      clear het
      generalize l.getD k ent0 = x at hc HET hfit
      obtain ⟨xu, xr, xt⟩ := x
      obtain ⟨c0, c1, c2⟩ := hc
      simp only at c0 c1 c2 hfit
      obtain ⟨nu, rfl⟩ : ∃ n : Nat, xu = (n : Int) := ⟨xu.toNat, by omega⟩
      obtain ⟨nr, rfl⟩ : ∃ n : Nat, xr = (n : Int) := ⟨xr.toNat, by omega⟩
      obtain ⟨nt, rfl⟩ : ∃ n : Nat, xt = (n : Int) := ⟨xt.toNat, by omega⟩
      obtain ⟨f1, f2, f3, f4, f5, f6⟩ := hfit
      have hw1 : IntKind.u64.wrap (nu : Int) = (nu : Int) := IntWalk.u64_in _ (by omega)
      have hw2 : IntKind.u64.wrap (nr : Int) = (nr : Int) := IntWalk.u64_in _ (by omega)
      have hw3 : IntKind.u64.wrap (nt : Int) = (nt : Int) := IntWalk.u64_in _ (by omega)
      have e1 := enc_len (v := nu) (by omega)
      have e2 := enc_len (v := nr) (by omega)
      have e3 := enc_len (v := nt) (by omega)
      have HET2 : Hid (encE (l.take (k + 1)) = encE (l.take k) ++ (enc nu ++ enc nr ++ enc nt)) := by
        have := HET.out; unfold encOne at this; exact Lib.hid (by simpa using this)
      have HA := Lib.hid (HIN.out.on (Kept.alloc (fun _ => False) wr (.cells #[.int .i64 (nu : Int), .int .i64 (nr : Int), .int .i64 (nt : Int)] 87)))
      have HEA := Lib.hid (hents.out.kept (Kept.alloc (fun _ => False) wr (.cells #[.int .i64 (nu : Int), .int .i64 (nr : Int), .int .i64 (nt : Int)] 87)) (fun _ _ h => h))
      obtain ⟨b0, b1, b2⟩ := box3m wr nu nr nt 87
      have hwbl : wb < wr.heap.size := World.block_lt_of_cell? wr _ HIN.out.wri.cell
      have HP : Hid (FarW (wr.alloc (.cells #[.int .i64 (nu : Int), .int .i64 (nr : Int), .int .i64 (nt : Int)] 87)) wb u wr.heap.size) := Lib.hid ⟨by simp, by omega, fun e => by have := (HIN.out.wri.own.lt _ e).2; omega⟩
      have HR : Hid (∀ q, (Value.slice (some ⟨gs, os, none⟩) N c).ownBlock = some q → FarW (wr.alloc (.cells #[.int .i64 (nu : Int), .int .i64 (nr : Int), .int .i64 (nt : Int)] 87)) wb u q) := Lib.hid fun q hq => (HFr.out q hq).on (by simp)
      clear HET HIN hents hg HFr
      go_wp2_with fail
      generalize wr.alloc (.cells #[.int .i64 (nu : Int), .int .i64 (nr : Int), .int .i64 (nt : Int)] 87) = W2 at *
      generalize wr.heap.size = P at *
      clear c0 c1 c2
      refine (uint_any nu W2 wb u wb _ HA.out.wri (by rw [List.length_append]; omega) (by show _ < 18446744073709551616; omega)).mono ?_
      rintro e w4 ⟨rfl, v4, hwr4, hs4⟩
      replace b0 := HP.out.cell hs4 b0; replace b1 := HP.out.cell hs4 b1; replace b2 := HP.out.cell hs4 b2
      replace HEA := Lib.hid (FarW.ents HR.out hs4 HEA.out)
      replace HP := Lib.hid (HP.out.step hs4); replace HR : Hid (∀ q, (Value.slice (some ⟨gs, os, none⟩) N c).ownBlock = some q → FarW w4 wb v4 q) := Lib.hid fun q hq => (HR.out q hq).step hs4
      replace HA := Lib.hid (HA.out.step hwr4 hs4)
      clear hwr4 hs4
      go_wp2_with fail
      refine (uint_any nr w4 wb v4 wb _ HA.out.wri (by simp only [List.length_append]; omega) (by show _ < 18446744073709551616; omega)).mono ?_
      rintro e w5 ⟨rfl, v5, hwr5, hs5⟩
      replace b0 := HP.out.cell hs5 b0; replace b1 := HP.out.cell hs5 b1; replace b2 := HP.out.cell hs5 b2
      replace HEA := Lib.hid (FarW.ents HR.out hs5 HEA.out)
      replace HP := Lib.hid (HP.out.step hs5); replace HR : Hid (∀ q, (Value.slice (some ⟨gs, os, none⟩) N c).ownBlock = some q → FarW w5 wb v5 q) := Lib.hid fun q hq => (HR.out q hq).step hs5
      replace HA := Lib.hid (HA.out.step hwr5 hs5)
      clear hwr5 hs5
      go_wp2_with fail
      refine (uint_any nt w5 wb v5 wb _ HA.out.wri (by simp only [List.length_append]; omega) (by show _ < 18446744073709551616; omega)).mono ?_
      rintro e w6 ⟨rfl, v6, hwr6, hs6⟩
      replace HEA := Lib.hid (FarW.ents HR.out hs6 HEA.out)
      replace HR : Hid (∀ q, (Value.slice (some ⟨gs, os, none⟩) N c).ownBlock = some q → FarW w6 wb v6 q) := Lib.hid fun q hq => (HR.out q hq).step hs6
      have H6 : Hid (∃ u, WKm w w6 wb u (ys ++ encE (l.take (k + 1))) ∧ ∀ q, (Value.slice (some ⟨gs, os, none⟩) N c).ownBlock = some q → FarW w6 wb u q) := by
        have h := HA.out.step hwr6 hs6
        simp only [List.append_assoc] at h
        refine Lib.hid ⟨v6, ?_, HR.out⟩
        rw [HET2.out]
        simp only [List.append_assoc]
        exact h
      clear hwr6 hs6 HA HR HP b0 b1 b2
      go_wp2_with fail
      go_roundw
      case rel => first | exact ⟨k + 1, by omega, by go_num, H6, HEA⟩ | ((repeat apply Exists.intro); exact ⟨⟨k + 1, by omega, by go_num, H6, HEA⟩, rfl⟩)
      case measure => simp [intOf]; omega
    · obtain rfl : k = N := by omega
      have hall : l.take k = l := List.take_of_length_le (by have := HN.out; omega)
      rw [hall] at HIN hkl
      clear hall
      go_wp2_with fail
      refine (out_any wr wb u _ HIN.out.wri.reads (by rw [List.length_append]; omega) HIN.out.wri.cell).mono ?_
      rintro e w4 ⟨v4, rfl, hf4, hk4⟩
      have HF4 : Hid (Fresh w4 w.heap.size v4 (ys ++ encE l)) := ⟨by
        have h5 := hf4.own
        refine ⟨h5.1, ?_⟩
        rcases h5.2 with h | ⟨g, cap, cur, h1, h2, h3⟩
        · exact Or.inl h
        · exact Or.inr ⟨g, cap, cur, h1, Nat.le_trans HIN.out.kept.size h2, h3⟩, fun k hk => Nat.le_trans HIN.out.kept.size (hf4.block k hk)⟩
      have HK4 := Lib.hid (HIN.out.kept.then hk4)
      clear hf4 hk4
      go_wp2_with fail
      go_ret
      exact ⟨_, rfl, HF4.out, HK4.out⟩
end Go.Proofs.YtccanbjnbmihgaaDoor
