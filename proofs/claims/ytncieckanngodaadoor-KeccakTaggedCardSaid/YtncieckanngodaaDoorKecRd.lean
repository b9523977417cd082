/-
  The reference's round of keccak.
-/
import Derived.Test.YtncieckanngodaaDoorKecRf
import Derived.Test.YtncieckanngodaaDoorKecRm
import Derived.Deep.RegionHeld3
import Derived.Deep.AppendLies
import Derived.Maps.AppendAt
namespace Go.Proofs.YtncieckanngodaaDoor
open Go.RowKit

theorem info_u64 : (Tryd.prog.info? 29).map (fun i => (i.zero, i.size, i.bytes)) = some (some (.int .u64 0), 1, 8) := by kernel_rfl

theorem own_at64 {w : World} {B : Nat} {e : TypeId} {a : Option Addr} {n l c : Nat} {xs : List Value} (h : w.ownsRow B e 1 (.slice a l c) n xs) (i : Nat) (hi : i < n) (u : Value) (hu : xs[i]? = some u) :
    ∃ g off, a = some ⟨g, off, none⟩ ∧ l = n ∧ B ≤ g ∧ g < w.heap.size ∧ w.cell? ⟨g, off + i, none⟩ = some u := by
  have hcell := fun g (hg : (Value.slice a l c).ownBlock = some g) => h.cells hg
  rcases h.2 with ⟨h1, h0⟩ | ⟨g, cap, cur, h1, hb, hg, _⟩
  · omega
  · cases h1
    have := hcell g rfl i u hu
    have hadd : (⟨g, 0, none⟩ : Addr).add i = ⟨g, 0 + i, none⟩ := by unfold Addr.add; split <;> simp_all
    rw [hadd] at this
    exact ⟨g, 0, rfl, rfl, hb, (Array.getElem?_eq_some_iff.1 hg).1, this⟩
theorem own_form64 {w : World} {B : Nat} {e : TypeId} {v : Value} {n : Nat} {xs : List Value} (h : w.ownsRow B e 1 v n xs) : ∃ a c, v = .slice a n c := by
  rcases h.2 with ⟨h1, h0⟩ | ⟨g, cap, cur, h1, _⟩
  · exact ⟨_, _, by rw [h1, h0]⟩
  · exact ⟨_, _, h1⟩

/-- What the first loop keeps: the parities of k columns. -/
structure ColInv (w wr : World) (v : Value) (s : List Nat) (k : Nat) : Prop where
  own : wr.ownsRow w.heap.size 29 1 v k (arr ((colL s).take k))
  kept : Kept (fun _ => False) w wr

theorem arr_take_succ (s : List Nat) (k : Nat) (hk : k < 5) : arr ((colL s).take (k + 1)) = arr ((colL s).take k) ++ [.int .u64 (colS s k : Nat)] := by
  have hl := colL_length s
  rw [List.take_succ_eq_append_getElem (by omega)]
  have : (colL s)[k]'(by omega) = colS s k := by
    have := colL_ln s k hk
    simpa [List.getD, show k < (colL s).length by omega] using this
  rw [this]; simp [arr]

theorem lanes_drewN {w : World} {g off : Nat} {s : List Nat} (h : Lanes w g off s) (n : Nat) : Lanes (w.drewN n) g off s := ⟨h.cell, h.free⟩
theorem turns_kept (W : World) : Calls Tryd.prog 65 #[] W fun e w' => e = .returned (.slice (some ⟨W.heap.size, 0, none⟩) 25 25) ∧ (∀ i, i < 25 → w'.cell? ⟨W.heap.size, i, none⟩ = some (.int .i64 (trn.getD i 0 : Nat))) ∧ Kept (fun _ => False) W w' := by
  refine (turns_any W).mono ?_
  rintro e w' ⟨rfl, rfl⟩
  refine ⟨rfl, fun i hi => ?_, Kept.alloc _ _ _⟩
  rw [cell_of_row _ W.heap.size i _ _ (0, 0) (heap_alloc_new W _), ← Array.getElem?_toList]
  have hl : trn.length = 25 := rfl
  simp [trnI, List.getD, show i < trn.length by omega]
theorem drew_ex {w w' : World} (h : ∃ m, w' = w.drewN m) : Kept (fun _ => False) w w' ∧ ∀ a, w'.cell? a = w.cell? a := by
  obtain ⟨m, rfl⟩ := h
  exact ⟨(Kept.refl _ _).drewN m, fun _ => rfl⟩
theorem lanes_at0 {w : World} {g : Nat} {s : List Nat} (h : Lanes w g 0 s) (i : Nat) (hi : i < s.length) : w.cell? ⟨g, i, none⟩ = some (.int .u64 (s.getD i 0 : Nat)) ∧ w.frozen? ⟨g, i, none⟩ = false := by
  have h1 := h.cell i hi
  have h2 := h.free i hi
  rw [Nat.zero_add] at h1 h2
  exact ⟨h1, h2⟩
theorem drewN_add (w : World) (j m : Nat) : (w.drewN j).drewN m = w.drewN (j + m) := by simp [World.drewN, Nat.add_assoc]
theorem rotl_quiet (x k : Nat) (w : World) (j : Nat) (hx : x < 2 ^ 64) (hk : k < 64) :
    Calls Tryd.prog 64 #[.int .u64 x, .int .i64 k] (w.drewN j) fun e w' => e = .returned (.int .u64 (rol x k : Nat)) ∧ ∃ m, w' = w.drewN m :=
  (rotl_any x k (w.drewN j) hx hk).mono fun _ _ h => ⟨h.1, by obtain ⟨m, hm⟩ := h.2; exact ⟨j + m, by rw [hm, drewN_add]⟩⟩

/-- 25 words of zero, as cells. -/
def zer25 : Array Value := (arr (List.replicate 25 0)).toArray

/-- What the second loops keep: n words of b; all but b is as it was. -/
structure BInv (w2 wr : World) (gb : Nat) (s : List Nat) (n : Nat) : Prop where
  b : Lanes wr gb 0 (bK s n)
  kept : Kept (fun k => k = gb) w2 wr

/-- What the third loops keep. -/
structure OInv (w3 wr : World) (go : Nat) (b : List Nat) (n : Nat) : Prop where
  o : Lanes wr go 0 (oK b n)
  kept : Kept (fun k => k = go) w3 wr

theorem lanes_set0 {w : World} {g : Nat} {s : List Nat} (h : Lanes w g 0 s) (i y : Nat) (hi : i < s.length) : Lanes (w.setCell ⟨g, i, none⟩ (.int .u64 (y : Int))) g 0 (s.set i y) := by
  have := h.set i y hi
  rwa [Nat.zero_add] at this

set_option maxRecDepth 100000 in
set_option maxHeartbeats 6400000 in
theorem round_any (w : World) (ga oa ca c : Nat) (s : List Nat) (h25 : s.length = 25) (hb : ∀ x ∈ s, x < 2 ^ 64) (h : Lanes w ga oa s) (hg : ga < w.heap.size) (hc : c < 2 ^ 64) :
    Calls Tryd.prog 39 #[.slice (some ⟨ga, oa, none⟩) 25 ca, .int .u64 c] w fun e w' => ∃ g', e = .returned (.slice (some ⟨g', 0, none⟩) 25 25) ∧ Lanes w' g' 0 (rndS s c) ∧ w.heap.size ≤ g' ∧ g' < w'.heap.size ∧ Kept (fun _ => False) w w' := by
  obtain ⟨i0, hi, hz0, hz1, hz2⟩ := info_parts info_u64
  have HH := Lib.hid h; have HB := Lib.hid hb; have H25 := Lib.hid h25
  clear h hb h25
  have HI0 : Hid (ColInv w w (.slice none 0 0) s 0) := ⟨World.ownsRow_nil _ _ _ _, Kept.refl _ _⟩
  go_enter Tryd.func39, Tryd.ntmps39
  go_wp2_with fail
  go_loopw [5, 6] (fun cv iv wr => ∃ k : Nat, k ≤ 5 ∧ iv = .int .i64 k ∧ Hid (ColInv w wr cv s k)) (fun _ iv _ => 5 - (intOf iv).toNat)
  case atStart => exact ⟨0, by omega, rfl, HI0⟩
  case round =>
    obtain ⟨k, hk, rfl, hinv⟩ := hrel
    have hsz := hinv.out.kept.size
    obtain ⟨av, cv, hvf⟩ := own_form64 hinv.out.own
    subst hvf
    by_cases hlt : k < 5
    · have hl1 : (k : Int) < 5 := by omega
      have hl0 : (0 : Int) ≤ (k : Int) := by omega
      have hla := fun (i : Nat) (hi : i < 25) => (hinv.out.kept.cell (p := ⟨ga, oa + i, none⟩) hg (fun h => h)).trans (HH.out.cell i (by rw [H25.out]; exact hi))
      obtain ⟨k1, hk1⟩ : ∃ z, z = k + 5 := ⟨_, rfl⟩
      obtain ⟨k2, hk2⟩ : ∃ z, z = k + 10 := ⟨_, rfl⟩
      obtain ⟨k3, hk3⟩ : ∃ z, z = k + 15 := ⟨_, rfl⟩
      obtain ⟨k4, hk4⟩ : ∃ z, z = k + 20 := ⟨_, rfl⟩
      have c0 := hla k (by omega); have c1 := hla k1 (by omega); have c2 := hla k2 (by omega); have c3 := hla k3 (by omega); have c4 := hla k4 (by omega)
      have e1 : IntKind.i64.wrap ((k : Int) + 5) = (k1 : Int) := by rw [IntWalk.i64_in _ (by omega)]; omega
      have e2 : IntKind.i64.wrap ((k : Int) + 10) = (k2 : Int) := by rw [IntWalk.i64_in _ (by omega)]; omega
      have e3 : IntKind.i64.wrap ((k : Int) + 15) = (k3 : Int) := by rw [IntWalk.i64_in _ (by omega)]; omega
      have e4 : IntKind.i64.wrap ((k : Int) + 20) = (k4 : Int) := by rw [IntWalk.i64_in _ (by omega)]; omega
      have q1 : (k1 : Int) < 25 := by omega
      have q2 : (k2 : Int) < 25 := by omega
      have q3 : (k3 : Int) < 25 := by omega
      have q4 : (k4 : Int) < 25 := by omega
      have q5 : (k : Int) < 25 := by omega
      have p1 : (0 : Int) ≤ k1 := by omega
      have p2 : (0 : Int) ≤ k2 := by omega
      have p3 : (0 : Int) ≤ k3 := by omega
      have p4 : (0 : Int) ≤ k4 := by omega
      have hcs : colS s k = s.getD k 0 ^^^ s.getD k1 0 ^^^ s.getD k2 0 ^^^ s.getD k3 0 ^^^ s.getD k4 0 := by rw [hk1, hk2, hk3, hk4]; rfl
      have lx := fun i => ln_lt HB.out i
      have l0 : s.getD k 0 < 2 ^ 64 := lx k
      have l1 : s.getD k1 0 < 2 ^ 64 := lx k1
      have l2 : s.getD k2 0 < 2 ^ 64 := lx k2
      have l3 : s.getD k3 0 < 2 ^ 64 := lx k3
      have l4 : s.getD k4 0 < 2 ^ 64 := lx k4
      have hts := arr_take_succ s k hlt
      clear hla hk1 hk2 hk3 hk4 lx
      generalize s.getD k 0 = x0 at c0 hcs l0
      generalize s.getD k1 0 = x1 at c1 hcs l1
      generalize s.getD k2 0 = x2 at c2 hcs l2
      generalize s.getD k3 0 = x3 at c3 hcs l3
      generalize s.getD k4 0 = x4 at c4 hcs l4
      obtain ⟨y1, hy1⟩ : ∃ y, y = x0 ^^^ x1 := ⟨_, rfl⟩
      obtain ⟨y2, hy2⟩ : ∃ y, y = y1 ^^^ x2 := ⟨_, rfl⟩
      obtain ⟨y3, hy3⟩ : ∃ y, y = y2 ^^^ x3 := ⟨_, rfl⟩
      obtain ⟨y4, hy4⟩ : ∃ y, y = y3 ^^^ x4 := ⟨_, rfl⟩
      have m1 : y1 < 2 ^ 64 := by rw [hy1]; exact Nat.xor_lt_two_pow l0 l1
      have m2 : y2 < 2 ^ 64 := by rw [hy2]; exact Nat.xor_lt_two_pow m1 l2
      have m3 : y3 < 2 ^ 64 := by rw [hy3]; exact Nat.xor_lt_two_pow m2 l3
      have r1 := xor64 x0 x1 y1 l0 l1 hy1
      have r2 := xor64 y1 x2 y2 m1 l2 hy2
      have r3 := xor64 y2 x3 y3 m2 l3 hy3
      have r4 := xor64 y3 x4 y4 m3 l4 hy4
      rw [← hy1, ← hy2, ← hy3, ← hy4] at hcs
      rw [hcs] at hts
      have HTS := Lib.hid hts
      have hane : ∀ j, (Value.slice av k cv).ownBlock = some j → ga ≠ j := fun j hj => by have := (hinv.out.own.lt j hj).1; omega
      have hane' : ¬ (Value.slice av k cv).ownBlock = some ga := fun e => hane ga e rfl
      have HANE := Lib.hid hane'
      have HIV := Lib.hid hinv.out
      have hgw : ga < wr.heap.size := by omega
      clear hts hcs hy1 hy2 hy3 hy4 l0 l1 l2 l3 l4 m1 m2 m3 hane hane' hinv HI0
      go_wp2_with fail
      go_region_held3 (fun w' => w'.cell? ⟨ga, oa + k, none⟩ = some (.int .u64 x0) ∧ w'.cell? ⟨ga, oa + k1, none⟩ = some (.int .u64 x1) ∧ w'.cell? ⟨ga, oa + k2, none⟩ = some (.int .u64 x2) ∧ w'.cell? ⟨ga, oa + k3, none⟩ = some (.int .u64 x3) ∧ w'.cell? ⟨ga, oa + k4, none⟩ = some (.int .u64 x4))
        (first | go_keep | (go_split_ands; refine ⟨?_, ?_, ?_, ?_, ?_⟩ <;> (rw [hgrow.cell_far _ (by simp; omega) (Ne.symm HANE.out)]; assumption)))
        ((refine step_append_lies _ (by rfl) _ _ _ (by rfl) w.heap.size 29 i0 _ 1 8 Tryd.underlying52 hi hz0 hz1 hz2 rfl (by omega) _ _ _ (by rfl) ((HIV.out.own.alloc _).drew) ⟨wr.heap.size, 0, none⟩ 1 1 [.int .u64 y4] (by rfl) (by rfl) (World.news_of_block (cs := #[.int .u64 y4]) (t := 29) (fr := (0, 0)) (heap_alloc_new wr _)) (by simp [Value.oneCell']) (by omega) (by unfold maxLen; omega) (by omega) (by simp; omega) (wr.heap.size + 1) (by simp) ?_; intro gg cap w1 hown1 hgrow hat hgl))
      have hin : Hid (ColInv w w1 (.slice (some ⟨gg, 0, none⟩) (k + 1) cap) s (k + 1)) := by
        refine ⟨by rw [HTS.out]; exact hown1, ?_⟩
        have k1 : Kept (fun _ => False) w (wr.alloc (.cells #[.int .u64 y4] 29)).drew := (HIV.out.kept.then (Kept.alloc _ _ _)).drew
        exact k1.trans (Kept.ofGrown (S := blk (.slice av k cv)) hgrow fun k e => e) (fun _ _ h => h) (fun i hi hb => by have := (HIV.out.own.lt i hb).1; omega)
      clear hown1 hgrow hat hgl e1 e2 e3 e4 r1 r2 r3 r4
      go_wp2_with fail
      go_roundw
      case rel => exact ⟨k + 1, by omega, by go_num, hin⟩
      case measure => simp [intOf]; omega
    · obtain rfl : k = 5 := by omega
      have hown : wr.ownsRow w.heap.size 29 1 (.slice av 5 cv) 5 (arr (colL s)) := by
        have h := hinv.out.own
        rwa [List.take_of_length_le (by rw [colL_length]; omega)] at h
      have hmk : ∀ W : World, (Instr.makeSlice 52 (.int .i64 25) (.int .i64 25)).run Tryd.prog W = .ok (.slice (some ⟨W.heap.size, 0, none⟩) 25 25) (W.alloc (.cells zer25 29)) := fun W => by kernel_rfl
      have HOWN := Lib.hid hown
      have HKW := Lib.hid hinv.out.kept
      have hlt := hinv.out.kept.size
      have hL0 := lanes_new wr zer25 29 (List.replicate 25 0) (by simp [zer25, arr])
      have hK0 := Kept.alloc (fun _ => False) wr (.cells zer25 29)
      have HL0 := Lib.hid hL0; have HK0 := Lib.hid hK0
      have hsz2 : (wr.alloc (.cells zer25 29)).heap.size = wr.heap.size + 1 := by simp
      have HSZ2 := Lib.hid hsz2
      clear hown hL0 hK0 hsz2 hinv HI0
      go_wp2_with fail
      clear hmk
      generalize wr.alloc (.cells zer25 29) = w2 at HL0 HK0 HSZ2 ⊢
      have HOWN2 := Lib.hid (HK0.out.owns HOWN.out (fun _ _ h => h))
      have HA2 := Lib.hid (HH.out.kept (HKW.out.then HK0.out) hg (fun h => h))
      have HKW2 := Lib.hid (HKW.out.then HK0.out)
      have hgb : w.heap.size ≤ wr.heap.size := hlt
      have hcb : ∀ j, (Value.slice av 5 cv).ownBlock = some j → j < wr.heap.size := fun j hj => (HOWN.out.lt j hj).2
      have HCB := Lib.hid hcb
      have hg2 : wr.heap.size < w2.heap.size := by rw [HSZ2.out]; omega
      clear hcb hlt HOWN HKW HK0 HSZ2
      generalize wr.heap.size = gb at *
      have HI : Hid (BInv w2 w2 gb s (5 * 0)) := ⟨HL0.out, Kept.refl _ _⟩
      have hgab : ga ≠ gb := by omega
      clear HL0
      go_loopw [8] (fun xv wr => ∃ x : Nat, x ≤ 5 ∧ xv = .int .i64 x ∧ Hid (BInv w2 wr gb s (5 * x))) (fun xv _ => 5 - (intOf xv).toNat)
      case atStart => exact ⟨0, by omega, rfl, HI⟩
      case round =>
        obtain ⟨x, hx, rfl, hinv⟩ := hrel
        clear HI
        by_cases hx5 : x < 5
        · have hl1 : (x : Int) < 5 := by omega
          have hl0 : (0 : Int) ≤ (x : Int) := by omega
          have hcol := fun (i : Nat) (hi : i < 5) => own_at64 (HOWN2.out) i hi (.int .u64 (colS s i : Nat)) (by rw [arr_get _ _ (by rw [colL_length]; exact hi)]; congr 3; exact colL_ln s i hi)
          obtain ⟨x4, hx4⟩ : ∃ z, z = (x + 4) % 5 := ⟨_, rfl⟩
          obtain ⟨x1, hx1⟩ : ∃ z, z = (x + 1) % 5 := ⟨_, rfl⟩
          obtain ⟨gc, oc, hav, _, hgc1, hgc2, hc4⟩ := hcol x4 (by omega)
          obtain ⟨gc', oc', hav', _, _, _, hc1⟩ := hcol x1 (by omega)
          rw [hav] at hav'
          cases hav'
          have hgcb : gc < gb := HCB.out gc (by rw [hav]; rfl)
          have hc4' := (hinv.out.kept.cell (p := ⟨gc, oc + x4, none⟩) hgc2 (by simp; omega)).trans hc4
          have hc1' := (hinv.out.kept.cell (p := ⟨gc, oc + x1, none⟩) hgc2 (by simp; omega)).trans hc1
          have hds : dS s x = colS s x4 ^^^ rol (colS s x1) 1 := by rw [hx4, hx1]; rfl
          have b4 : colS s x4 < 2 ^ 64 := colS_lt HB.out _
          have b1 : colS s x1 < 2 ^ 64 := colS_lt HB.out _
          have t4 : ((x : Int) + 4).tmod 5 = (x4 : Int) := by rw [Int.tmod_eq_emod_of_nonneg (by omega)]; omega
          have t1 : ((x : Int) + 1).tmod 5 = (x1 : Int) := by rw [Int.tmod_eq_emod_of_nonneg (by omega)]; omega
          have t4' : ((x : Int) + 4) % 5 = (x4 : Int) := by omega
          have t1' : ((x : Int) + 1) % 5 = (x1 : Int) := by omega
          have s4 : IntKind.i64.wrap ((x : Int) + 4) = (x : Int) + 4 := IntWalk.i64_in _ (by omega)
          have s1 : IntKind.i64.wrap ((x : Int) + 1) = (x : Int) + 1 := IntWalk.i64_in _ (by omega)
          have u4 : (x4 : Int) < 5 := by omega
          have u1 : (x1 : Int) < 5 := by omega
          have v4 : (0 : Int) ≤ x4 := by omega
          have v1 : (0 : Int) ≤ x1 := by omega
          clear hcol hx4 hx1 hc4 hc1
          generalize colS s x4 = p4 at hc4' b4 hds
          generalize colS s x1 = p1 at hc1' b1 hds
          have hrl : rol p1 1 < 2 ^ 64 := rol_lt b1 (by omega)
          have HRO := Lib.hid (fun (j : Nat) => rotl_quiet p1 1 wr j b1 (by omega))
          generalize rol p1 1 = r1 at hrl HRO hds
          obtain ⟨dd, hdd⟩ : ∃ z, z = p4 ^^^ r1 := ⟨_, rfl⟩
          have xr := xor64 p4 r1 dd b4 hrl hdd
          have hddl : dd < 2 ^ 64 := by rw [hdd]; exact Nat.xor_lt_two_pow b4 hrl
          rw [← hdd] at hds
          have HDS := Lib.hid hds
          clear hds hdd
          have hav2 := hav
          have HAV := Lib.hid hav
          subst hav2
          go_wp2_with fail
          go_quiet ((go_at_call 64; exact HRO.out _))
          have HIW : Hid (BInv w2 (wr.drewN nq) gb s (5 * x + 0)) := ⟨lanes_drewN hinv.out.b nq, hinv.out.kept.drewN nq⟩
          clear hinv hc4' hc1' HRO xr t4 t1 t4' t1' s4 s1
          generalize wr.drewN nq = wq at HIW ⊢
          go_wp2_with fail
          go_loopw [10] (fun yv wr => ∃ y : Nat, y ≤ 5 ∧ yv = .int .i64 y ∧ Hid (BInv w2 wr gb s (5 * x + y))) (fun yv _ => 5 - (intOf yv).toNat)
          case atStart => exact ⟨0, by omega, rfl, HIW⟩
          case round =>
            obtain ⟨y, hy, rfl, hinv⟩ := hrel
            clear HIW
            by_cases hy5 : y < 5
            · have hm1 : (y : Int) < 5 := by omega
              have hm0 : (0 : Int) ≤ (y : Int) := by omega
              obtain ⟨y5, hy5e⟩ : ∃ z, z = 5 * y := ⟨_, rfl⟩
              obtain ⟨i, hie⟩ : ∃ z, z = x + y5 := ⟨_, rfl⟩
              obtain ⟨x2, hx2⟩ : ∃ z, z = 2 * x := ⟨_, rfl⟩
              obtain ⟨y3, hy3⟩ : ∃ z, z = 3 * y := ⟨_, rfl⟩
              obtain ⟨z, hz⟩ : ∃ z, z = x2 + y3 := ⟨_, rfl⟩
              obtain ⟨r, hr⟩ : ∃ r, r = z % 5 := ⟨_, rfl⟩
              obtain ⟨r5, hr5⟩ : ∃ q, q = 5 * r := ⟨_, rfl⟩
              obtain ⟨p, hp⟩ : ∃ p, p = y + r5 := ⟨_, rfl⟩
              have e1 : IntKind.i64.wrap (5 * (y : Int)) = (y5 : Int) := by rw [IntWalk.i64_in _ (by omega)]; omega
              have e2 : IntKind.i64.wrap ((x : Int) + (y5 : Int)) = (i : Int) := by rw [IntWalk.i64_in _ (by omega)]; omega
              have e3 : IntKind.i64.wrap (2 * (x : Int)) = (x2 : Int) := by rw [IntWalk.i64_in _ (by omega)]; omega
              have e4 : IntKind.i64.wrap (3 * (y : Int)) = (y3 : Int) := by rw [IntWalk.i64_in _ (by omega)]; omega
              have e5 : IntKind.i64.wrap ((x2 : Int) + (y3 : Int)) = (z : Int) := by rw [IntWalk.i64_in _ (by omega)]; omega
              have e6 : (z : Int).tmod 5 = (r : Int) := by rw [Int.tmod_eq_emod_of_nonneg (by omega)]; omega
              have e6' : (z : Int) % 5 = (r : Int) := by omega
              have e7 : IntKind.i64.wrap (5 * (r : Int)) = (r5 : Int) := by rw [IntWalk.i64_in _ (by omega)]; omega
              have e8 : IntKind.i64.wrap ((y : Int) + (r5 : Int)) = (p : Int) := by rw [IntWalk.i64_in _ (by omega)]; omega
              have hpl : p < 25 := by omega
              have hil : i < 25 := by omega
              have hdiv : (5 * x + y) / 5 = x ∧ (5 * x + y) % 5 = y := by omega
              have hbp : bP (5 * x + y) = p := by unfold bP; rw [hdiv.1, hdiv.2]; omega
              have hbv : bV s (5 * x + y) = rol (ln s i ^^^ dS s x) (trn.getD i 0) := by unfold bV; rw [hdiv.1, hdiv.2, show x + 5 * y = i by omega]
              have hsucc : bK s (5 * x + (y + 1)) = (bK s (5 * x + y)).set p (rol (ln s i ^^^ dS s x) (trn.getD i 0)) := by
                rw [show 5 * x + (y + 1) = (5 * x + y) + 1 by omega, bK, hbp, hbv]
              rw [HDS.out] at hsucc
              have f1 : (i : Int) < 25 := by omega
              have f2 : (0 : Int) ≤ i := by omega
              have f3 : (p : Int) < 25 := by omega
              have f4 : (0 : Int) ≤ p := by omega
              have ca0 := (hinv.out.kept.cell (p := ⟨ga, oa + i, none⟩) (by have := HA2.out; have := World.block_lt_of_cell? w2 _ (HA2.out.cell i (by rw [H25.out]; exact hil)); exact this) (by simpa using hgab)).trans (HA2.out.cell i (by rw [H25.out]; exact hil))
              have hgbl : gb < wr.heap.size := Nat.lt_of_lt_of_le hg2 hinv.out.kept.size
              have hgal : ga < wr.heap.size := World.block_lt_of_cell? wr _ ca0
              have hbl := bK_length s (5 * x + y)
              have bi : ln s i < 2 ^ 64 := ln_lt HB.out i
              have htl := trn_lt i
              have hb0 := hinv.out.b
              have hkk := hinv.out.kept
              clear hy5e hie hx2 hy3 hz hr hr5 hp hdiv hbp hbv hinv
              rw [show s.getD i 0 = ln s i from rfl] at ca0
              generalize ln s i = a0 at ca0 bi hsucc
              generalize htn : trn.getD i 0 = tn at htl hsucc
              have HTN := Lib.hid htn; clear htn
              obtain ⟨q, hq⟩ : ∃ q, q = a0 ^^^ dd := ⟨_, rfl⟩
              have xr := xor64 a0 dd q bi hddl hq
              have hql : q < 2 ^ 64 := by rw [hq]; exact Nat.xor_lt_two_pow bi hddl
              rw [← hq] at hsucc
              have HRO := Lib.hid (fun (W : World) => rotl_any q tn W hql htl)
              generalize rol q tn = rv at HRO hsucc
              have HSU := Lib.hid hsucc; have HB0 := Lib.hid hb0; have HKK := Lib.hid hkk; have HBL := Lib.hid hbl
              clear hsucc hb0 hkk hbl hq bi
              go_wp2_with fail
              go_region_with
                ((first | (go_at_call 65; refine (turns_kept _).mono ?_; rintro e w6 ⟨rfl, ht6, hk6⟩; have K6 : Hid (Kept (fun _ => False) wr w6) := Lib.hid ((Kept.refl _ _).drew.then hk6); have c6 : w6.cell? ⟨wr.heap.size, i, none⟩ = some (.int .i64 tn) := (ht6 i hil).trans (by rw [HTN.out]); have a6 : w6.cell? ⟨ga, oa + i, none⟩ = some (.int .u64 a0) := (K6.out.cell (p := ⟨ga, oa + i, none⟩) hgal (fun h => h)).trans (by exact ca0); clear ht6 hk6) | (go_at_call 64; refine (HRO.out _).mono ?_; rintro e w7 ⟨rfl, hw7⟩; obtain ⟨k7, q7⟩ := drew_ex hw7; have K7 : Hid (Kept (fun _ => False) w6 w7) := Lib.hid k7; obtain ⟨d7, z7⟩ := lanes_at0 (HB0.out.kept (K6.out.then k7) hgbl (fun h => h)) p (by rw [HBL.out]; exact hpl); clear q7 k7 hw7)))
              all_goals
                clear e1 e2 e3 e4 e5 e6 e6' e7 e8 xr
                have hset := lanes_set0 (HB0.out.kept (K6.out.then K7.out) hgbl (fun h => h)) p rv (by rw [HBL.out]; exact hpl)
                rw [← HSU.out] at hset
                have hk8 : Kept (fun k => k = gb) w2 (w7.setCell ⟨gb, p, none⟩ (.int .u64 (rv : Int))) := (HKK.out.trans (K6.out.then K7.out) (fun _ _ h => h) (fun _ _ h => h.elim)).trans (Kept.setCell (fun k => k = gb) w7 ⟨gb, p, none⟩ (.int .u64 (rv : Int)) rfl) (fun _ _ h => h) (fun _ _ h => h)
                have HI8 : Hid (BInv w2 (w7.setCell ⟨gb, p, none⟩ (.int .u64 (rv : Int))) gb s (5 * x + (y + 1))) := ⟨hset, hk8⟩
                clear hset hk8
                go_wp2_with fail
                go_roundw
                case rel => first | exact ⟨y + 1, by omega, by go_num, HI8⟩ | ((repeat apply Exists.intro); exact ⟨⟨y + 1, by omega, by go_num, HI8⟩, rfl⟩) | ((repeat apply Exists.intro); exact ⟨by omega, by go_num, HI8⟩)
                case measure => simp [intOf]; omega
            · obtain rfl : y = 5 := by omega
              have HI9 := hinv
              rw [show 5 * x + 5 = 5 * (x + 1) by omega] at HI9
              clear hinv
              go_wp2_with fail
              go_roundw
              case rel => first | exact ⟨x + 1, by omega, by go_num, HI9⟩ | ((repeat apply Exists.intro); exact ⟨⟨x + 1, by omega, by go_num, HI9⟩, rfl⟩) | ((repeat apply Exists.intro); exact ⟨by omega, by go_num, HI9⟩)
              case measure => simp [intOf]; omega
        · obtain rfl : x = 5 := by omega
          have hb25 : Lanes wr gb 0 (movS (mixS s)) := by
            have h := hinv.out.b
            rwa [show 5 * 5 = 25 from rfl, bK_all] at h
          have hkw3 : Kept (fun _ => False) w wr := HKW2.out.trans hinv.out.kept (fun _ _ h => h) (fun i hi e => by omega)
          have hgbl : gb < wr.heap.size := Nat.lt_of_lt_of_le hg2 hinv.out.kept.size
          have hmk : ∀ W : World, (Instr.makeSlice 52 (.int .i64 25) (.int .i64 25)).run Tryd.prog W = .ok (.slice (some ⟨W.heap.size, 0, none⟩) 25 25) (W.alloc (.cells zer25 29)) := fun W => by kernel_rfl
          have hL0 := lanes_new wr zer25 29 (List.replicate 25 0) (by simp [zer25, arr])
          have hK0 := Kept.alloc (fun _ => False) wr (.cells zer25 29)
          have hsz2 : (wr.alloc (.cells zer25 29)).heap.size = wr.heap.size + 1 := by simp
          have hbbl : (movS (mixS s)).length = 25 := movK_length _ _
          have hbbb : ∀ x ∈ movS (mixS s), x < 2 ^ 64 := movK_lt (mixS_lt HB.out) 25
          obtain ⟨bb, hbb⟩ : ∃ bb, bb = movS (mixS s) := ⟨_, rfl⟩
          rw [← hbb] at hb25 hbbl hbbb
          have HL0 := Lib.hid hL0; have HK0 := Lib.hid hK0; have HSZ2 := Lib.hid hsz2; have HBB := Lib.hid hbb; have HBL := Lib.hid hbbl; have HBBB := Lib.hid hbbb; have HKW3 := Lib.hid hkw3; have HB25 := Lib.hid hb25
          clear hb25 hkw3 hL0 hK0 hsz2 hbb hbbl hbbb hinv
          go_wp2_with fail
          clear hmk
          generalize wr.alloc (.cells zer25 29) = w3 at HL0 HK0 HSZ2 ⊢
          have HB3 := Lib.hid (HB25.out.kept HK0.out hgbl (fun h => h))
          have HK3 := Lib.hid (HKW3.out.then HK0.out)
          have hgo0 : w.heap.size ≤ wr.heap.size := HKW3.out.size
          have hg3 : wr.heap.size < w3.heap.size := by rw [HSZ2.out]; omega
          clear HK0 HSZ2 HKW3 HB25
          have hgbo : gb < wr.heap.size := hgbl
          generalize wr.heap.size = go at *
          have HO0 : Hid (OInv w3 w3 go bb (5 * 0)) := ⟨HL0.out, Kept.refl _ _⟩
          clear HL0
          go_loopw [12] (fun xv wr => ∃ x : Nat, x ≤ 5 ∧ xv = .int .i64 x ∧ Hid (OInv w3 wr go bb (5 * x))) (fun xv _ => 5 - (intOf xv).toNat)
          case atStart => exact ⟨0, by omega, rfl, HO0⟩
          case round =>
            obtain ⟨x, hx, rfl, hinv⟩ := hrel
            clear HO0
            by_cases hx5 : x < 5
            · have hl1 : (x : Int) < 5 := by omega
              have hl0 : (0 : Int) ≤ (x : Int) := by omega
              have HIW : Hid (OInv w3 wr go bb (5 * x + 0)) := hinv
              clear hinv
              go_wp2_with fail
              go_loopw [13] (fun yv wr => ∃ y : Nat, y ≤ 5 ∧ yv = .int .i64 y ∧ Hid (OInv w3 wr go bb (5 * x + y))) (fun yv _ => 5 - (intOf yv).toNat)
              case atStart => exact ⟨0, by omega, rfl, HIW⟩
              case round =>
                obtain ⟨y, hy, rfl, hinv⟩ := hrel
                clear HIW
                by_cases hy5 : y < 5
                · have hm1 : (y : Int) < 5 := by omega
                  have hm0 : (0 : Int) ≤ (y : Int) := by omega
                  obtain ⟨y5, hy5e⟩ : ∃ z, z = 5 * y := ⟨_, rfl⟩
                  obtain ⟨i, hie⟩ : ∃ z, z = x + y5 := ⟨_, rfl⟩
                  obtain ⟨r1, hr1⟩ : ∃ r, r = (x + 1) % 5 := ⟨_, rfl⟩
                  obtain ⟨r2, hr2⟩ : ∃ r, r = (x + 2) % 5 := ⟨_, rfl⟩
                  obtain ⟨i1, hi1⟩ : ∃ z, z = r1 + y5 := ⟨_, rfl⟩
                  obtain ⟨i2, hi2⟩ : ∃ z, z = r2 + y5 := ⟨_, rfl⟩
                  have hil : i < 25 := by omega
                  have hil1 : i1 < 25 := by omega
                  have hil2 : i2 < 25 := by omega
                  have hdiv : (5 * x + y) / 5 = x ∧ (5 * x + y) % 5 = y := by omega
                  have hov : oV bb (5 * x + y) = chi1 (ln bb i) (ln bb i1) (ln bb i2) := by unfold oV; rw [hdiv.1, hdiv.2, show x + 5 * y = i by omega, show (x + 1) % 5 + 5 * y = i1 by omega, show (x + 2) % 5 + 5 * y = i2 by omega]
                  have hsucc : oK bb (5 * x + (y + 1)) = (oK bb (5 * x + y)).set i (chi1 (ln bb i) (ln bb i1) (ln bb i2)) := by
                    rw [show 5 * x + (y + 1) = (5 * x + y) + 1 by omega, oK, hov, hdiv.1, hdiv.2, show x + 5 * y = i by omega]
                  have f1 : (i : Int) < 25 := by omega
                  have f2 : (0 : Int) ≤ i := by omega
                  have f3 : (i1 : Int) < 25 := by omega
                  have f4 : (0 : Int) ≤ i1 := by omega
                  have f5 : (i2 : Int) < 25 := by omega
                  have f6 : (0 : Int) ≤ i2 := by omega
                  have hbw := HB3.out.kept hinv.out.kept (by omega) (by omega)
                  obtain ⟨c0, _⟩ := lanes_at0 hbw i (by rw [HBL.out]; exact hil)
                  obtain ⟨c1, _⟩ := lanes_at0 hbw i1 (by rw [HBL.out]; exact hil1)
                  obtain ⟨c2, _⟩ := lanes_at0 hbw i2 (by rw [HBL.out]; exact hil2)
                  obtain ⟨d0, z0⟩ := lanes_at0 hinv.out.o i (by rw [oK_length]; exact hil)
                  have b0 : ln bb i < 2 ^ 64 := ln_lt HBBB.out i
                  have b1 : ln bb i1 < 2 ^ 64 := ln_lt HBBB.out i1
                  have b2 : ln bb i2 < 2 ^ 64 := ln_lt HBBB.out i2
                  rw [show bb.getD i 0 = ln bb i from rfl] at c0
                  rw [show bb.getD i1 0 = ln bb i1 from rfl] at c1
                  rw [show bb.getD i2 0 = ln bb i2 from rfl] at c2
                  generalize (oK bb (5 * x + y)).getD i 0 = old at d0
                  have hE : (IntKind.i64.wrap (5 * (y : Int)) = (y5 : Int)) ∧ (IntKind.i64.wrap ((x : Int) + (y5 : Int)) = (i : Int)) ∧ (IntKind.i64.wrap ((x : Int) + 1) = (x : Int) + 1) ∧ (IntKind.i64.wrap ((x : Int) + 2) = (x : Int) + 2) ∧ (((x : Int) + 1).tmod 5 = (r1 : Int)) ∧ (((x : Int) + 1) % 5 = (r1 : Int)) ∧ (((x : Int) + 2).tmod 5 = (r2 : Int)) ∧ (((x : Int) + 2) % 5 = (r2 : Int)) ∧ (IntKind.i64.wrap ((r1 : Int) + (y5 : Int)) = (i1 : Int)) ∧ (IntKind.i64.wrap ((r2 : Int) + (y5 : Int)) = (i2 : Int)) := by
                    clear hsucc hov hdiv
                    refine ⟨?_, ?_, ?_, ?_, ?_, ?_, ?_, ?_, ?_, ?_⟩
                    · rw [IntWalk.i64_in _ (by omega)]; omega
                    · rw [IntWalk.i64_in _ (by omega)]; omega
                    · exact IntWalk.i64_in _ (by omega)
                    · exact IntWalk.i64_in _ (by omega)
                    · rw [Int.tmod_eq_emod_of_nonneg (by omega)]; omega
                    · omega
                    · rw [Int.tmod_eq_emod_of_nonneg (by omega)]; omega
                    · omega
                    · rw [IntWalk.i64_in _ (by omega)]; omega
                    · rw [IntWalk.i64_in _ (by omega)]; omega
                  obtain ⟨e1, e2, e3, e4, e5, e5', e6, e6', e7, e8⟩ := hE
                  clear hy5e hie hr1 hr2 hi1 hi2 hdiv hov hbw
                  generalize ln bb i = a0 at c0 b0 hsucc
                  generalize ln bb i1 = a1 at c1 b1 hsucc
                  generalize ln bb i2 = a2 at c2 b2 hsucc
                  obtain ⟨na, hna⟩ : ∃ q, q = all1 ^^^ a1 := ⟨_, rfl⟩
                  have hnal : na < 2 ^ 64 := by rw [hna]; exact Nat.xor_lt_two_pow all1_lt b1
                  obtain ⟨an, han⟩ : ∃ q, q = na &&& a2 := ⟨_, rfl⟩
                  have hanl : an < 2 ^ 64 := by rw [han]; exact Nat.and_lt_two_pow _ b2
                  obtain ⟨rv, hrv⟩ : ∃ q, q = a0 ^^^ an := ⟨_, rfl⟩
                  have n1 := neg64 a1 na b1 hna
                  have n2 := and64 na a2 an hnal b2 han
                  have n3 := xor64 a0 an rv b0 hanl hrv
                  have hchi : chi1 a0 a1 a2 = rv := by unfold chi1; rw [hrv, han, hna]
                  rw [hchi] at hsucc
                  have hset := lanes_set0 (w := wr.drew) ⟨hinv.out.o.cell, hinv.out.o.free⟩ i rv (by rw [oK_length]; exact hil)
                  rw [← hsucc] at hset
                  have hk8 : Kept (fun k => k = go) w3 (wr.drew.setCell ⟨go, i, none⟩ (.int .u64 (rv : Int))) := hinv.out.kept.drew.trans (Kept.setCell (fun k => k = go) wr.drew ⟨go, i, none⟩ (.int .u64 (rv : Int)) rfl) (fun _ _ h => h) (fun _ _ h => h)
                  have HI8 : Hid (OInv w3 (wr.drew.setCell ⟨go, i, none⟩ (.int .u64 (rv : Int))) go bb (5 * x + (y + 1))) := ⟨hset, hk8⟩
                  clear hset hk8 hsucc hchi hrv han hna hinv
                  go_wp2_with fail
                  go_still_tail 34, (by kernel_rfl)
                  change wpList _ _ _ _ _ wr.drew
                  replace d0 : wr.drew.cell? _ = _ := d0
                  replace z0 : wr.drew.frozen? _ = _ := z0
                  clear c0 c1 c2 e1 e2 e3 e4 e5 e5' e6 e6' e7 e8
                  generalize wr.drew = v at *
                  go_wp2_with fail
                  try simp only [n1, n2, n3]
                  clear n1 n2 n3
                  go_roundw
                  case rel => first | exact ⟨y + 1, by omega, by go_num, HI8⟩ | ((repeat apply Exists.intro); exact ⟨⟨y + 1, by omega, by go_num, HI8⟩, rfl⟩) | ((repeat apply Exists.intro); exact ⟨by omega, by go_num, HI8⟩)
                  case measure => simp [intOf]; omega
                · obtain rfl : y = 5 := by omega
                  have HI9 := hinv
                  rw [show 5 * x + 5 = 5 * (x + 1) by omega] at HI9
                  clear hinv
                  go_wp2_with fail
                  go_roundw
                  case rel => first | exact ⟨x + 1, by omega, by go_num, HI9⟩ | ((repeat apply Exists.intro); exact ⟨⟨x + 1, by omega, by go_num, HI9⟩, rfl⟩) | ((repeat apply Exists.intro); exact ⟨by omega, by go_num, HI9⟩)
                  case measure => simp [intOf]; omega
            · obtain rfl : x = 5 := by omega
              have ho25 : Lanes wr go 0 (chiS bb) := by
                have h := hinv.out.o
                rwa [show 5 * 5 = 25 from rfl, oK_all] at h
              obtain ⟨d0, z0⟩ := lanes_at0 ho25 0 (by rw [chiS_length]; omega)
              have b0 : ln (chiS bb) 0 < 2 ^ 64 := ln_lt (chiS_lt HBBB.out) 0
              rw [show (chiS bb).getD 0 0 = ln (chiS bb) 0 from rfl] at d0
              obtain ⟨rv, hrv⟩ : ∃ q, q = ln (chiS bb) 0 ^^^ c := ⟨_, rfl⟩
              have n3 := xor64 _ c rv b0 hc hrv
              have hset := lanes_set0 ho25 0 rv (by rw [chiS_length]; omega)
              have hrn : rndS s c = (chiS bb).set 0 rv := by rw [rndS, ← HBB.out, hrv]
              rw [← hrn] at hset
              have hk8 : Kept (fun k => k = go) w3 (wr.setCell ⟨go, 0, none⟩ (.int .u64 (rv : Int))) := hinv.out.kept.trans (Kept.setCell (fun k => k = go) wr ⟨go, 0, none⟩ (.int .u64 (rv : Int)) rfl) (fun _ _ h => h) (fun _ _ h => h)
              have HS := Lib.hid hset; have HK8 := Lib.hid hk8
              clear hset hk8 hrn hrv hinv ho25
              generalize ln (chiS bb) 0 = l0 at d0 n3
              go_wp2_with fail
              go_ret
              exact ⟨go, rfl, HS.out, hgo0, Nat.lt_of_lt_of_le hg3 HK8.out.size, HK3.out.trans HK8.out (fun _ _ h => h) (fun i hi e => by omega)⟩
end Go.Proofs.YtncieckanngodaaDoor
