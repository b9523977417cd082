/-
  arbac/keccak: Write.
-/
import Derived.Test.YtdmnanocmpkhjaaDoorKecH
namespace Go.Proofs.YtdmnanocmpkhjaaDoor
open Go.RowKit

def slLen : Value → Nat
  | .slice _ n _ => n
  | _ => 0

set_option maxRecDepth 100000 in
set_option maxHeartbeats 1600000 in
theorem write_any (w : World) (g off : Nat) (xs : List Nat) (p : Value) (ys : List Nat) (hh : HashAt w g off xs) (hg : g < w.heap.size) (hT : KTab w) (hn : NoTab g) (hp : Reads w p ys) (hy : ∀ x ∈ ys, x < 256)
    (hne : ∀ k, p.ownBlock = some k → k ≠ g) (hle : xs.length + ys.length < 2 ^ 62) :
    Calls Tryd.prog 10 #[.pointer (some ⟨g, off, none⟩), p] w fun e w' => e = .returned (.tuple #[]) ∧ HashAt w' g off (xs ++ ys) ∧ KR g off (off + 162) w w' := by
  have HH := Lib.hid hh; have HT := Lib.hid hT; have HN := Lib.hid hn; have HP := Lib.hid hp; have HY := Lib.hid hy; have HNE := Lib.hid hne
  obtain ⟨a, c, hf⟩ := hp.form
  clear hh hT hn hp hy hne
  subst hf
  go_enter Tryd.func10, Tryd.ntmps10
  go_wp2_with fail
  go_loopw [1, 4] (fun pv _ W => ∃ k : Nat, k ≤ ys.length ∧ Reads W pv (ys.drop k) ∧ (∀ b, pv.ownBlock = some b → b ≠ g) ∧ HashAt W g off (xs ++ ys.take k) ∧ KR g off (off + 162) w W) (fun pv _ _ => slLen pv)
  case atStart => exact ⟨0, by omega, HP.out, HNE.out, by simpa using HH.out, KR.refl _ _ _ _⟩
  case round =>
    obtain ⟨k, hk, hr, hnb, hhw, hkw⟩ := hrel
    have hT1 := HT.out.keptNe hkw.kept HN.out
    have hgg := Nat.lt_of_lt_of_le hg hkw.kept.size
    obtain ⟨a1, c1, hf1⟩ := hr.form
    subst hf1
    have hrest : ∀ x ∈ ys.drop k, x < 256 := fun x hx => HY.out x (List.mem_of_mem_drop hx)
    have htk : ∀ n, xs ++ ys.take (k + n) = (xs ++ ys.take k) ++ (ys.drop k).take n := fun n => by rw [List.append_assoc, List.take_add]
    have hdk : ∀ n, ys.drop (k + n) = (ys.drop k).drop n := fun n => by rw [List.drop_drop]
    have hkl : (ys.drop k).length = ys.length - k := by simp
    have hzl : (xs ++ ys.take k).length = xs.length + k := by simp; omega
    generalize hrs : ys.drop k = rs at *
    generalize hzs : xs ++ ys.take k = zs at *
    by_cases h0 : rs.length = 0
    · have hk2 : k = ys.length := by omega
      have hfin : zs = xs ++ ys := by rw [← hzs, hk2, List.take_length]
      rw [hfin] at hhw
      have HHW := Lib.hid hhw; have HKW := Lib.hid hkw
      rw [h0]
      clear hr hhw hkw htk hdk hrest hrs hzs hnb hT1 hkl hfin hk2 hzl
      go_wp2_with fail
      go_end0
      exact ⟨rfl, HHW.out, HKW.out⟩
    · rcases hr with ⟨_, hr0⟩ | ⟨gs, os, cap, hf2, r1, r2, r3, r4⟩
      · exact absurd (by rw [hr0]; rfl) h0
      injection hf2 with e1 _ e3
      subst e1 e3
      have hgs : gs ≠ g := hnb gs rfl
      obtain ⟨blk, hb1, hb2, hb3, hb4⟩ := hhw.blk
      have hok := hsh_ok hhw.byte
      have hlen := hhw.len
      have hlf := hhw.free
      obtain ⟨m, hm⟩ : ∃ m, m = zs.length % 136 := ⟨_, rfl⟩
      obtain ⟨L, hL⟩ : ∃ L, L = zs.length := ⟨_, rfl⟩
      obtain ⟨l, hl⟩ : ∃ l, l = rs.length := ⟨_, rfl⟩
      obtain ⟨n, hn⟩ : ∃ n, n = Nat.min l (136 - m) := ⟨_, rfl⟩
      have hL62 : L < 2 ^ 62 := by omega
      have hn1 : n ≤ l := by rw [hn]; exact Nat.min_le_left _ _
      have hn2 : n ≤ 136 - m := by rw [hn]; exact Nat.min_le_right _ _
      have hn0 : 0 < n := by rw [hn]; exact Nat.lt_min.2 ⟨by omega, by omega⟩
      have hcl : (rs.take n).length = n := by simp; omega
      rw [← hL] at hlen
      have hmax := r2
      unfold maxLen at hmax
      have hrun := fun (W : World) (hW : W.heap = wr.heap) => run_copy8 (P := Tryd.prog) W 26 26 3 5 g (off + 25 + m) (136 - m) (136 - m) l c1 gs os blk (rs.take n) rs rfl rfl (by rw [hcl, hn])
        (fun j hj => by rw [hcl] at hj; refine ⟨by omega, ?_⟩; rw [List.getD_eq_getElem?_getD, List.getD_eq_getElem?_getD, List.getElem?_take_of_lt hj])
        (fun j hj => by have := r4 j hj; unfold World.cell? at this ⊢; rw [hW]; exact this) (off + 25) m rfl (⟨fun i hi => by have := hb3.cell i hi; unfold World.cell? at this ⊢; rw [hW]; exact this, fun i hi => by have := hb3.free i hi; unfold World.frozen? at this ⊢; rw [hW]; exact this⟩) (by rw [hcl]; omega)
      rw [hcl] at hrun
      rw [← hl]
      have HRUN := Lib.hid hrun
      have y1 : (0 : Int) ≤ m := by omega
      have y2 : (m : Int) ≤ 136 := by omega
      have y3 : ¬ 136 = m := by omega
      have y4 : (0 : Int) < l := by omega
      have y5 : (n : Int) ≤ l := by omega
      have y6 : (0 : Int) ≤ n := by omega
      have HR4 := Lib.hid r4; have HB3 := Lib.hid hb3; have HB4 := Lib.hid hb4; have HB2 := Lib.hid hb2; have HOK := Lib.hid hok; have HHW := Lib.hid hhw; have HKW := Lib.hid hkw
      have HTK := Lib.hid htk; have HDK := Lib.hid hdk; have HREST := Lib.hid hrest; have HRS := Lib.hid hrs; have HZS := Lib.hid hzs; have HT1 := Lib.hid hT1
      have HM := Lib.hid hm; have HL := Lib.hid hL; have HLL := Lib.hid hl; have HNN := Lib.hid hn
      clear hrun r4 hb3 hb4 hb2 hok hhw hkw htk hdk hrest hrs hzs hT1 hm hL hl hn hnb h0 hkl
      go_wp2_with fail
      go_still_tail 7, (by kernel_rfl)
      still_call ((pending_any _ g off L (by exact hlen) hL62).mono (fun _ _ h => ⟨h.1, h.2.symm⟩))
      rw [← HL.out] at HM
      rw [← HM.out]
      repeat still_step
      refine wpStill_nil ?_
      change wpList _ _ _ _ _ wr.drew
      have hr1 := HRUN.out wr.drew rfl
      have kr1 : KR g (off + 25 + m) (off + 25 + m + n) wr.drew (wr.drew.setCells g (off + 25 + m) (arr8 (rs.take n))) := KR.setCells g _ _ _ _ _ (Nat.le_refl _) (by rw [arr8_length, hcl]; exact Nat.le_refl _)
      have B1 := HB3.out.drew.splice (a := m) (c := rs.take n) (by rw [hcl]; omega)
      have S1 := HHW.out.st.drew.kr kr1 hgg (Or.inr (Or.inr (by have := HOK.out.l1; omega)))
      have L1 := (kr1.out (off + 161) (by omega)).trans hlen
      have F1 := (kr1.frozen (off + 161)).trans hlf
      have K1 := HKW.out.drew.trans kr1 (Nat.le_refl _) (Nat.le_refl _) (by omega) (by omega)
      have R1 : ∀ i, i < rs.length → (wr.drew.setCells g (off + 25 + m) (arr8 (rs.take n))).cell? ⟨gs, os + i, none⟩ = some (.int .u8 (rs.getD i 0 : Nat)) := fun i hi => (kr1.kept.cell (p := ⟨gs, os + i, none⟩) r3 hgs).trans (HR4.out i hi)
      have T1 := HT1.out.keptNe (a := wr) (b := wr.drew.setCells g (off + 25 + m) (arr8 (rs.take n))) (((KR.refl g 0 0 wr).kept.drew).trans kr1.kept (fun _ _ h => h) (fun _ _ h => h)) HN.out
      have G1 : g < (wr.drew.setCells g (off + 25 + m) (arr8 (rs.take n))).heap.size := Nat.lt_of_lt_of_le hgg kr1.kept.size
      have Q1 : gs < (wr.drew.setCells g (off + 25 + m) (arr8 (rs.take n))).heap.size := Nat.lt_of_lt_of_le r3 kr1.kept.size
      have HX := Lib.hid hr1; have HKR := Lib.hid kr1; have HB := Lib.hid B1; have HS := Lib.hid S1; have HL1 := Lib.hid L1; have HF1 := Lib.hid F1; have HK1 := Lib.hid K1; have HR1 := Lib.hid R1; have HTT := Lib.hid T1
      clear hr1 kr1 B1 S1 L1 F1 K1 R1 T1 hlen hlf HB3 HRUN HHW HKW HR4 HT1
      obtain ⟨w1, hw1⟩ : ∃ w1, w1 = wr.drew.setCells g (off + 25 + m) (arr8 (rs.take n)) := ⟨_, rfl⟩
      rw [← hw1] at HX HB HS HL1 HF1 HK1 HR1 HTT G1 Q1 HKR
      clear hw1 HKR
      obtain ⟨L2, hL2⟩ : ∃ L2, L2 = L + n := ⟨_, rfl⟩
      have wn : IntKind.u64.wrap (n : Int) = (n : Int) := IntWalk.u64_in _ (by omega)
      have wadd : IntKind.u64.wrap ((L : Int) + n) = (L2 : Int) := by rw [IntWalk.u64_in _ (by omega)]; omega
      have nc : (n : Int) ≤ c1 := by have := HLL.out; omega
      have nc' : n ≤ c1 := by have := HLL.out; omega
      have hlen := HL1.out
      have hlf := HF1.out
      have HL2 := Lib.hid hL2; clear hL2
      refine Lib.wpList_copy_run _ rfl _ _ 26 26 rfl _ _ rfl rfl HX.out ?_
      have hlz : L2 = (zs ++ rs.take n).length := by rw [List.length_append, hcl, HL2.out, HL.out]
      have hb : (hsh zs).2.length = m := by rw [HOK.out.l2, HM.out, HL.out]
      have HB4' := HB4.out
      rw [hb] at HB4'
      have hB := HB.out
      rw [HB4', hcl] at hB
      have hBl : ((hsh zs).2 ++ rs.take n ++ blk.drop (m + n)).length = 136 := by simp only [List.length_append, List.length_drop, hb, hcl, hb1]; omega
      have hBb : ∀ x ∈ (hsh zs).2 ++ rs.take n ++ blk.drop (m + n), x < 256 := by
        intro x hx
        rcases List.mem_append.1 hx with hx | hx
        · rcases List.mem_append.1 hx with hx | hx
          · exact HOK.out.b2 x hx
          · exact HREST.out x (List.mem_of_mem_take hx)
        · exact HB2.out x (List.mem_of_mem_drop hx)
      have hBt : ((hsh zs).2 ++ rs.take n ++ blk.drop (m + n)).take (m + n) = (hsh zs).2 ++ rs.take n := by
        rw [List.take_append_of_le_length (by rw [List.length_append, hb, hcl]; exact Nat.le_refl _), List.take_of_length_le (by rw [List.length_append, hb, hcl]; exact Nat.le_refl _)]
      have hc1 : m + n < 136 → hsh (zs ++ rs.take n) = ((hsh zs).1, (hsh zs).2 ++ rs.take n) := fun h => by
        rw [hsh_append]; exact feed_few (rs.take n) (hsh zs).1 (hsh zs).2 (by rw [hb, hcl]; exact h)
      have hc2 : m + n = 136 → hsh (zs ++ rs.take n) = (absS (hsh zs).1 ((hsh zs).2 ++ rs.take n ++ blk.drop (m + n)), []) := fun h => by
        rw [hsh_append, show blk.drop (m + n) = [] by rw [h]; exact List.drop_of_length_le (by omega), List.append_nil]; exact feed_full (rs.take n) (hsh zs).1 (hsh zs).2 (by rw [hb, hcl]; exact h) (by rw [hb, HM.out]; exact Nat.mod_lt _ (by omega))
      have hzb : ∀ x ∈ zs ++ rs.take n, x < 256 := by
        intro x hx
        rcases List.mem_append.1 hx with hx | hx
        · rw [← HZS.out] at hx
          rcases List.mem_append.1 hx with hx | hx
          · exact HH.out.byte x hx
          · exact HY.out x (List.mem_of_mem_take hx)
        · exact HREST.out x (List.mem_of_mem_take hx)
      have hs25 := HOK.out.l1
      have hs64 := HOK.out.b1
      have hSt := HS.out
      obtain ⟨Bk, hBk⟩ : ∃ Bk, Bk = (hsh zs).2 ++ rs.take n ++ blk.drop (m + n) := ⟨_, rfl⟩
      rw [← hBk] at hB hBl hBb hBt hc2
      obtain ⟨st, hst⟩ : ∃ st, st = (hsh zs).1 := ⟨_, rfl⟩
      rw [← hst] at hc1 hc2 hs25 hs64 hSt
      obtain ⟨bu, hbu⟩ : ∃ bu, bu = (hsh zs).2 := ⟨_, rfl⟩
      rw [← hbu] at hc1 hBt hb
      have htk2 := HTK.out n
      have hdk2 := HDK.out n
      obtain ⟨z2, hz2⟩ : ∃ z2, z2 = zs ++ rs.take n := ⟨_, rfl⟩
      rw [← hz2] at hc1 hc2 hzb hlz htk2
      have hbl2 : (bu ++ rs.take n).length = m + n := by simp [hb, hcl]
      generalize rs.take n = cn at hc1 hBt hbl2
      have RD : ∀ W : World, (∀ i, i < rs.length → W.cell? ⟨gs, os + i, none⟩ = some (.int .u8 (rs.getD i 0 : Nat))) → gs < W.heap.size → ∀ pv, (pv = .slice (some ⟨gs, os + n, none⟩) (l - n) (c1 - n) ∨ (c1 = n ∧ pv = .slice (some ⟨gs, os, none⟩) (l - n) 0)) →
          Reads W pv (ys.drop (k + n)) ∧ (∀ b, pv.ownBlock = some b → b ≠ g) ∧ slLen pv = l - n := by
        intro W hW hWs pv hpv
        rw [hdk2]
        have hr1 : Reads W (.slice (some ⟨gs, os, none⟩) rs.length c1) rs := Or.inr ⟨gs, os, c1, rfl, r1, r2, hWs, hW⟩
        have hll := HLL.out
        rcases hpv with rfl | ⟨hcn, rfl⟩
        · refine ⟨?_, fun b hb => by simp [Value.ownBlock] at hb; subst hb; exact hgs, rfl⟩
          rw [hll]; exact hr1.drop n (by omega)
        · have hnil : rs.drop n = [] := List.drop_of_length_le (by omega)
          refine ⟨?_, fun b hb => by simp [Value.ownBlock] at hb; subst hb; exact hgs, rfl⟩
          rw [hnil, show l - n = 0 by omega]
          exact Or.inr ⟨gs, os, 0, rfl, by simp, by simp, hWs, fun i hi => by simp at hi⟩
      have hkn : k + n ≤ ys.length := by
        have h1 := HRS.out
        have h2 : rs.length = ys.length - k := by rw [← h1]; simp
        have h3 := HLL.out
        omega
      have HRD := Lib.hid RD; have HC1 := Lib.hid hc1; have HC2 := Lib.hid hc2; have HZB := Lib.hid hzb; have HLZ := Lib.hid hlz; have HB' := Lib.hid hB; have HBB := Lib.hid hBb; have HBT := Lib.hid hBt; have HS64 := Lib.hid hs64; have HST := Lib.hid hSt; have HTK2 := Lib.hid htk2; have HBL2 := Lib.hid hbl2
      clear RD hc1 hc2 hzb hlz hB hBb hBt hs64 hSt htk2 hdk2 hbl2 hst hbu hz2 hBk hb HB4' HX HL1 HF1 HB HS HB4 HB2 HOK HTK HDK HREST HRS HZS HNN HY
      have hlen2 : (w1.setCell ⟨g, off + 161, none⟩ (.int .u64 (L2 : Int))).cell? ⟨g, off + 161, none⟩ = some (.int .u64 (L2 : Nat)) := World.cell?_setCell_same _ _ _ hlen
      have hlf2 : (w1.setCell ⟨g, off + 161, none⟩ (.int .u64 (L2 : Int))).frozen? ⟨g, off + 161, none⟩ = false := by rw [World.frozen?_setCell]; exact hlf
      have kr2 := KR.setCell g (off + 161) (off + 161) (off + 162) w1 (.int .u64 (L2 : Int)) (by omega)
      have hK2 := HK1.out.trans kr2 (Nat.le_refl _) (Nat.le_refl _) (by omega) (by omega)
      have hB2 := HB'.out.kr kr2 G1 (Or.inr (Or.inr (by omega)))
      have hS2 := HST.out.kr kr2 G1 (Or.inr (Or.inr (by omega)))
      have hR2 : ∀ i, i < rs.length → (w1.setCell ⟨g, off + 161, none⟩ (.int .u64 (L2 : Int))).cell? ⟨gs, os + i, none⟩ = some (.int .u8 (rs.getD i 0 : Nat)) := fun i hi => (kr2.kept.cell (p := ⟨gs, os + i, none⟩) Q1 hgs).trans (HR1.out i hi)
      have hT2 := HTT.out.keptNe kr2.kept HN.out
      have G2 := Nat.lt_of_lt_of_le G1 kr2.kept.size
      have Q2 := Nat.lt_of_lt_of_le Q1 kr2.kept.size
      have HLEN2 := Lib.hid hlen2; have HLF2 := Lib.hid hlf2; have HK2 := Lib.hid hK2; have HB2 := Lib.hid hB2; have HS2 := Lib.hid hS2; have HR2 := Lib.hid hR2; have HT2 := Lib.hid hT2; have HG2 := Lib.hid G2; have HQ2 := Lib.hid Q2
      clear hlen2 hlf2 kr2 hK2 hB2 hS2 hR2 hT2 G2 Q2 HB' HST HR1 HTT HK1
      obtain ⟨m2, hm2⟩ : ∃ m2, m2 = L2 % 136 := ⟨_, rfl⟩
      have hm2c : (m2 = 0 ∧ m + n = 136) ∨ (m2 ≠ 0 ∧ m + n < 136) := by
        have := HM.out; have := HL2.out; omega
      have HM2 := Lib.hid hm2; clear hm2
      go_wp2_with fail
      all_goals
        refine (pending_any _ g off L2 HLEN2.out (by have := HL2.out; have := HL.out; omega)).mono ?_
        rw [← HM2.out]
        rintro e w2 ⟨rfl, rfl⟩
        generalize w1.setCell ⟨g, off + 161, none⟩ (.int .u64 (L2 : Int)) = w2 at *
        clear hlen hlf
        rcases hm2c with ⟨hm0, hmn⟩ | ⟨hm0, hmn⟩
        · subst hm0
          go_wp2_with fail
          go_still_tail 6, (by kernel_rfl)
          change wpList _ _ _ _ _ w2.drew
          go_wp2_with fail
          refine (absorb_any w2.drew g off g (off + 25) st Bk hs25 HS64.out HS2.out.drew HG2.out (HT2.out.keptNe (KR.refl g 0 0 w2).kept.drew HN.out) HN.out hBl HBB.out HB2.out.drew HG2.out (Or.inr (Or.inl (Nat.le_refl _)))).mono ?_
          rintro e w3 ⟨rfl, hs3, k3⟩
          have e2 := HC2.out hmn
          have hfin : HashAt w3 g off z2 := ⟨by rw [e2]; exact hs3, ⟨Bk, hBl, HBB.out, HB2.out.drew.kr k3 HG2.out (Or.inr (Or.inl (Nat.le_refl _))), by rw [e2]; rfl⟩,
            by rw [← HLZ.out]; exact (k3.out (off + 161) (by omega)).trans HLEN2.out, (k3.frozen (off + 161)).trans HLF2.out, HZB.out⟩
          have hR3 : ∀ i, i < rs.length → w3.cell? ⟨gs, os + i, none⟩ = some (.int .u8 (rs.getD i 0 : Nat)) := fun i hi => (k3.kept.cell (p := ⟨gs, os + i, none⟩) HQ2.out hgs).trans (HR2.out i hi)
          have hQ3 := Nat.lt_of_lt_of_le (show gs < w2.drew.heap.size from HQ2.out) k3.kept.size
          have hk3 := HK2.out.drew.trans k3 (Nat.le_refl _) (Nat.le_refl _) (Nat.le_refl _) (by omega)
          rw [← HTK2.out] at hfin
          have HFIN := Lib.hid hfin; have HR3 := Lib.hid hR3; have HK3 := Lib.hid hk3
          clear hs3 k3 e2 hfin hR3 hk3
          go_wp2_with fail
          have hrdL := HRD.out w3 HR3.out hQ3 _ (Or.inl rfl)
          have hrdR := fun hc => HRD.out w3 HR3.out hQ3 _ (Or.inr ⟨hc, rfl⟩)
          go_roundw
          case rel =>
            first
              | exact ⟨k + n, hkn, hrdL.1, hrdL.2.1, HFIN.out, HK3.out⟩
              | exact ⟨k + n, hkn, (hrdR (by assumption)).1, (hrdR (by assumption)).2.1, HFIN.out, HK3.out⟩
          case measure => simp [slLen]; omega
        · have e2 := HC1.out hmn
          have hfin : HashAt w2 g off z2 := ⟨by rw [e2]; exact HS2.out, ⟨Bk, hBl, HBB.out, HB2.out, by rw [e2]; show Bk.take (bu ++ cn).length = bu ++ cn; rw [HBL2.out]; exact HBT.out⟩,
            by rw [← HLZ.out]; exact HLEN2.out, HLF2.out, HZB.out⟩
          rw [← HTK2.out] at hfin
          have HFIN := Lib.hid hfin
          have hm0' : ¬ (m2 : Int) = 0 := by omega
          clear e2 hfin
          go_wp2_with fail
          have hrdL := HRD.out w2 HR2.out HQ2.out _ (Or.inl rfl)
          have hrdR := fun hc => HRD.out w2 HR2.out HQ2.out _ (Or.inr ⟨hc, rfl⟩)
          go_roundw
          case rel =>
            first
              | exact ⟨k + n, hkn, hrdL.1, hrdL.2.1, HFIN.out, HK2.out⟩
              | exact ⟨k + n, hkn, (hrdR (by assumption)).1, (hrdR (by assumption)).2.1, HFIN.out, HK2.out⟩
          case measure => simp [slLen]; omega
end Go.Proofs.YtdmnanocmpkhjaaDoor
