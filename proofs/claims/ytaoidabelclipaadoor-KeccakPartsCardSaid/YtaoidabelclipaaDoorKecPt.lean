/-
  arbaclaw03.KeccakParts returns true.
-/
import Derived.Test.YtaoidabelclipaaDoorKecG
import Derived.Test.YtaoidabelclipaaDoorPieceM
import Derived.Test.YtaoidabelclipaaDoorKecEq
import Derived.Test.YtaoidabelclipaaDoorKecSh
namespace Go.Proofs.YtaoidabelclipaaDoor
open Go.RowKit

theorem strOf_strB (s : ByteArray) : strOf (strB s) = s := by
  have h := strOf_bytes (strB_byte s)
  have h2 : (strOf (strB s)).data.toList.map UInt8.toNat = s.data.toList.map UInt8.toNat := h
  have h3 : (strOf (strB s)).data.toList = s.data.toList := by
    apply List.ext_getElem
    · have := congrArg List.length h2; simpa using this
    · intro i h1 h4
      have := congrArg (fun l => l[i]?) h2
      simp only [List.getElem?_map, List.getElem?_eq_getElem h1, List.getElem?_eq_getElem h4, Option.map_some, Option.some.injEq] at this
      exact UInt8.toNat_inj.1 this
  cases hx : strOf (strB s)
  cases s
  rw [hx] at h3
  congr 1
  exact Array.ext' h3

/-- Two slices of bytes in a new block. -/
theorem lb2 (w : World) (v0 v1 : Value) (x0 x1 : List Nat) (T : TypeId) (fr : Nat × Nat) (h0 : Reads w v0 x0) (h1 : Reads w v1 x1) (b0 : ∀ x ∈ x0, x < 256) (b1 : ∀ x ∈ x1, x < 256) :
    LB (w.alloc (.cells #[v0, v1] T fr)) (.slice (some ⟨w.heap.size, 0, none⟩) 2 2) (fun i => [v0, v1].getD i (.bool false)) (fun i => [x0, x1].getD i []) 2 (w.alloc (.cells #[v0, v1] T fr)).heap.size := by
  have hk := Kept.alloc (fun _ => False) w (.cells #[v0, v1] T fr)
  refine Or.inr ⟨w.heap.size, 0, 2, rfl, Nat.le_refl _, fun i hi => ?_⟩
  match i, hi with
  | 0, _ => exact ⟨by rw [Nat.add_zero, cell_of_row _ w.heap.size 0 _ T fr (heap_alloc_new w _)]; rfl, by simp, Or.inl ⟨h0.kept hk (fun _ _ h => h), fun j hj => by have := h0.lt j hj; simp; omega⟩, b0⟩
  | 1, _ => exact ⟨by rw [Nat.zero_add, cell_of_row _ w.heap.size 1 _ T fr (heap_alloc_new w _)]; rfl, by simp, Or.inl ⟨h1.kept hk (fun _ _ h => h), fun j hj => by have := h1.lt j hj; simp; omega⟩, b1⟩

theorem encN_two (x0 x1 : List Nat) : encN (fun i => [x0, x1].getD i []) 2 = (enc x0.length ++ x0) ++ (enc x1.length ++ x1) := by
  simp [encN]

/-- A writer of the call's own. -/
structure WK (w wr : World) (wb : Nat) (v : Value) (xs : List Nat) : Prop where
  wri : Wr wr wb v wb xs
  kept : Kept (fun _ => False) w wr
  base : w.heap.size ≤ wb
theorem WK.step {w w1 w2 : World} {wb : Nat} {v v' : Value} {xs ys : List Nat} (h : WK w w1 wb v xs) (hw : Wr w2 wb v' wb ys) (hs : WStep w1 w2 wb v v') : WK w w2 wb v' ys := by
  have hb := h.base
  refine ⟨hw, h.kept.trans hs.kept (fun _ _ h => h) (fun i hi e => ?_), hb⟩
  rcases e with e | e
  · omega
  · have := (h.wri.own.lt _ e).1; omega
theorem WK.on {S : Nat → Prop} {w w1 w2 : World} {wb : Nat} {v : Value} {xs : List Nat} (h : WK w w1 wb v xs) (hk : Kept S w1 w2) (hS : ∀ i, i < w1.heap.size → ¬ S i) : WK w w2 wb v xs := by
  have hlt := h.wri.lt
  exact ⟨h.wri.kept hk (hS _ hlt) (fun k hk => hS _ (h.wri.own.lt k hk).2), h.kept.trans hk (fun _ _ h => h) (fun i hi e => hS i (Nat.lt_of_lt_of_le hi h.kept.size) e), h.base⟩

set_option maxRecDepth 100000 in
set_option maxHeartbeats 6400000 in
theorem parts3_any (s : ByteArray) (pa pb : Value) (xa xb : List Nat) (w : World) (hT : KTab w) (hs : s.size ≤ 9223372036854775807) (ha : InBytes w pa xa) (hb : InBytes w pb xb) :
    Calls Tryd.prog 6 #[.string s, pa, pb] w fun e w' => e = .returned (.bool true) ∧ Kept (fun _ => False) w w' := by
  obtain ⟨aa, ca, hfa⟩ := ha.reads.form
  obtain ⟨ab, cb, hfb⟩ := hb.reads.form
  subst hfa hfb
  have HT := Lib.hid hT
  have ra := short_in ha; have rb := short_in hb
  have la := take600 xa; have lb := take600 xb
  have ya : ∀ x ∈ xa.take 600, x < 256 := fun x hx => ha.byte x (List.mem_of_mem_take hx)
  have yb : ∀ x ∈ xb.take 600, x < 256 := fun x hx => hb.byte x (List.mem_of_mem_take hx)
  have SA := fun (W : World) (hk : Kept (fun _ => False) w W) => short_any W aa xa ca (ha.reads.kept hk (fun _ _ h => h))
  have SB := fun (W : World) (hk : Kept (fun _ => False) w W) => short_any W ab xb cb (hb.reads.kept hk (fun _ _ h => h))
  have oa := ra.lt; have ob := rb.lt
  generalize xa.take 600 = sa at *
  generalize xb.take 600 = sb at *
  have HRA := Lib.hid ra; have HRB := Lib.hid rb; have HYA := Lib.hid ya; have HYB := Lib.hid yb; have HSA := Lib.hid SA; have HSB := Lib.hid SB; have HOA := Lib.hid oa; have HOB := Lib.hid ob
  clear hT ha hb ra rb ya yb SA SB oa ob
  go_enter Tryd.func6, Tryd.ntmps6
  go_wp2_with fail
  refine (awake3_any w HT.out).mono ?_
  rintro e w0 ⟨rfl, k0⟩
  have HSA0 := Lib.hid (fun (k : Nat) => HSA.out (w0.drewN k) (k0.drewN k))
  have HSB0 := Lib.hid (fun (k : Nat) => HSB.out (w0.drewN k) (k0.drewN k))
  by_cases h200 : s.size ≤ 200
  · have e1 : min (s.size : Int) 200 = (s.size : Int) := by omega
    have e2 : ((s.size : Nat) : Int) ≤ 200 := by omega
    go_wp2_with fail
    go_quiet ((first | (go_at_call 14; with_reducible exact quiet_leftK (HSA0.out _)) | (go_at_call 14; with_reducible exact quiet_leftK (HSB0.out _))))
    go_wp2_with fail
    clear e1 e2
    have K1 := k0.drewN nq
    generalize w0.drewN nq = wN at K1 ⊢
    refine (newWriter_any wN).mono ?_
    rintro e w1 ⟨rfl, hw1⟩
    have H1 : WK w w1 wN.heap.size (.slice none 0 0) [] := ⟨by rw [hw1]; exact wr_new wN wN.heap.size (Nat.le_refl _), by rw [hw1]; exact K1.then (Kept.alloc _ _ _), K1.size⟩
    have hbase : w.heap.size ≤ wN.heap.size := K1.size
    have H1 := Lib.hid H1
    clear K1 hw1 k0 HSA HSB HSA0 HSB0
    generalize wN.heap.size = wb at H1 hbase ⊢
    go_wp2_with fail
    refine (string_any s w1 wb _ wb _ H1.out.wri (by simp) (by omega) (by have := H1.out.wri.lt; omega)).mono ?_
    rintro e w2 ⟨rfl, v2, hwr2, hs2⟩
    rw [List.nil_append] at hwr2
    have H2 := Lib.hid (H1.out.step hwr2 hs2)
    have l1 := enc_len (v := s.size) (by omega)
    have l2 := strB_length s
    have lT : (enc s.size ++ strB s).length ≤ 210 := by rw [List.length_append]; omega
    clear hwr2 hs2 H1
    go_wp2_with fail
    refine (wbytes_any _ sa w2 wb _ wb _ H2.out.wri (HRA.out.kept H2.out.kept (fun _ _ h => h)) (fun k hk => ⟨fun e => by have := HOA.out k hk; omega, fun e => by have := HOA.out k hk; have := (H2.out.wri.own.lt k e).1; omega⟩) (by omega) (by omega) (by have := H2.out.wri.lt; omega)).mono ?_
    rintro e w3 ⟨rfl, v3, hwr3, hs3⟩
    have H3 := Lib.hid (H2.out.step hwr3 hs3)
    have l3 := enc_len (v := sa.length) (by omega)
    have l4 := enc_len (v := sb.length) (by omega)
    have lA : ((enc s.size ++ strB s) ++ (enc sa.length ++ sa)).length ≤ 820 := by rw [List.length_append]; have h9 : (enc sa.length ++ sa).length = (enc sa.length).length + sa.length := List.length_append; omega
    clear hwr3 hs3 H2
    go_wp2_with fail
    refine (wbytes_any _ sb w3 wb _ wb _ H3.out.wri (HRB.out.kept H3.out.kept (fun _ _ h => h)) (fun k hk => ⟨fun e => by have := HOB.out k hk; omega, fun e => by have := HOB.out k hk; have := (H3.out.wri.own.lt k e).1; omega⟩) (by omega) (by omega) (by have := H3.out.wri.lt; omega)).mono ?_
    rintro e w4 ⟨rfl, v4, hwr4, hs4⟩
    have h4 := H3.out.step hwr4 hs4
    have lB : (((enc s.size ++ strB s) ++ (enc sa.length ++ sa)) ++ (enc sb.length ++ sb)).length ≤ 1440 := by rw [List.length_append]; have h9 : (enc sb.length ++ sb).length = (enc sb.length).length + sb.length := List.length_append; omega
    have hxb : ∀ x ∈ ((enc s.size ++ strB s) ++ (enc sa.length ++ sa)) ++ (enc sb.length ++ sb), x < 256 := by
      intro x hx
      rcases List.mem_append.1 hx with hx | hx
      · rcases List.mem_append.1 hx with hx | hx
        · exact (List.mem_append.1 hx).elim (enc_byte _ x) (strB_byte s x)
        · exact (List.mem_append.1 hx).elim (enc_byte _ x) (HYA.out x)
      · exact (List.mem_append.1 hx).elim (enc_byte _ x) (HYB.out x)
    have htag : (enc s.size ++ strB s) ++ encN (fun i => [sa, sb].getD i []) 2 = ((enc s.size ++ strB s) ++ (enc sa.length ++ sa)) ++ (enc sb.length ++ sb) := by rw [encN_two]; simp only [List.append_assoc]
    have hpc : ((enc s.size ++ strB s) ++ (enc sa.length ++ sa)) ++ (enc sb.length ++ sb) = (enc (strB s).length ++ strB s) ++ ((enc sa.length ++ sa) ++ ((enc sb.length ++ sb) ++ [])) := by simp only [l2, List.append_nil, List.append_assoc]
    obtain ⟨X, hX⟩ : ∃ X, X = ((enc s.size ++ strB s) ++ (enc sa.length ++ sa)) ++ (enc sb.length ++ sb) := ⟨_, rfl⟩
    rw [← hX] at h4 lB hxb htag hpc
    have H4 := Lib.hid h4; have HXB := Lib.hid hxb; have HTAG := Lib.hid htag; have HPC := Lib.hid hpc; have L2 := Lib.hid l2
    clear hwr4 hs4 H3 h4 hX hxb htag hpc lA lT l1 l2 l3 l4
    go_wp2_with fail
    refine (out_any w4 wb v4 X H4.out.wri.reads (by omega) H4.out.wri.cell).mono ?_
    rintro e w5 ⟨p5, rfl, hf5, hk5⟩
    have H5 := Lib.hid (H4.out.on hk5 (fun _ _ h => h))
    have HF5 := Lib.hid hf5.reads
    clear hf5 hk5 H4
    go_wp2_with fail
    refine (newReader_any w5 p5 X HF5.out (by omega)).mono ?_
    rintro e w6 ⟨rb, rv, rfl, hrd6, hrb6, _, hk6⟩
    have H6 := Lib.hid (H5.out.on hk6 (fun _ _ h => h))
    have hwb6 : wb < w5.heap.size := H5.out.wri.lt
    rw [HPC.out] at hrd6
    have HRD6 := Lib.hid hrd6
    have n6 := hrd6.lt
    clear hrd6 hk6 HF5
    have hS : ∀ i, i < w5.heap.size → ¬ i = rb := fun i hi e => by omega
    have h5s : ∀ k, v4.ownBlock = some k → k < w5.heap.size := fun k hk => (H5.out.wri.own.lt k hk).2
    have H5S := Lib.hid h5s
    have hwb0 : w.heap.size ≤ w5.heap.size := H5.out.kept.size
    have b6 : ∀ b ∈ (enc (strB s).length ++ strB s) ++ ((enc sa.length ++ sa) ++ ((enc sb.length ++ sb) ++ [])), b < 256 := by rw [← HPC.out]; exact HXB.out
    have b7 : ∀ b ∈ (enc sa.length ++ sa) ++ ((enc sb.length ++ sb) ++ []), b < 256 := fun b hb => b6 b (List.mem_append_right _ hb)
    have b8 : ∀ b ∈ (enc sb.length ++ sb) ++ [], b < 256 := fun b hb => b7 b (List.mem_append_right _ hb)
    have P6 := pieceS_enc (strB s) ((enc sa.length ++ sa) ++ ((enc sb.length ++ sb) ++ [])) 200 (by rw [L2.out]; omega) (by rw [L2.out]; omega)
    have P7 := pieceS_enc sa ((enc sb.length ++ sb) ++ []) 600 (by omega) (by omega)
    have P8 := pieceS_enc sb [] 600 (by omega) (by omega)
    have C6 := rstring_any w6 rb rv _ 0 200 HRD6.out b6 (Lib.hid (by omega))
    rw [P6, strOf_strB] at C6
    have HC6 := Lib.hid C6
    have HB7 := Lib.hid b7; have HB8 := Lib.hid b8; have HP7 := Lib.hid P7; have HP8 := Lib.hid P8; have HS := Lib.hid hS
    clear C6 b6 b7 b8 P6 P7 P8 hS h5s H5
    go_wp2_with fail
    refine HC6.out.mono ?_
    rintro e w7 ⟨rfl, rv7, hrd7, _, hk7⟩
    have k7 : Kept (fun k => k = rb) w6 w7 := hk7
    have H7 : Hid (WK w w7 wb v4 X) := Lib.hid ⟨H6.out.wri.kept k7 (by omega) (fun k hk => HS.out k (H5S.out k hk)), H6.out.kept.trans k7 (fun _ _ h => h) (fun i hi e => by omega), H6.out.base⟩
    have C7 := rbytes_any w7 rb rv7 _ 0 600 hrd7 HB7.out (Lib.hid (by omega)) (by rw [HP7.out]; show sa.length ≤ _; omega)
    rw [HP7.out] at C7
    have HC7 := Lib.hid C7
    have n7 := hrd7.lt
    clear C7 hrd7 hk7 k7 HC6 HRD6 H6
    go_wp2_with fail
    refine HC7.out.mono ?_
    rintro e w8 ⟨q8, rv8, rfl, hf8, hrd8, _, hk8⟩
    have H8 : Hid (WK w w8 wb v4 X) := Lib.hid ⟨H7.out.wri.kept hk8 (by omega) (fun k hk => HS.out k (H5S.out k hk)), H7.out.kept.trans hk8 (fun _ _ h => h) (fun i hi e => by omega), H7.out.base⟩
    have C8 := rbytes_any w8 rb rv8 _ 0 600 hrd8 HB8.out (Lib.hid (by omega)) (by rw [HP8.out]; show sb.length ≤ _; omega)
    rw [HP8.out] at C8
    have HC8 := Lib.hid C8
    have HQ8 := Lib.hid hf8
    have n8 := hrd8.lt
    clear C8 hrd8 hk8 HC7 H7
    have n78 : rb < w7.heap.size := n7
    go_wp2_with fail
    refine HC8.out.mono ?_
    rintro e w9 ⟨q9, rv9, rfl, hf9, hrd9, _, hk9⟩
    have H9 : Hid (WK w w9 wb v4 X) := Lib.hid ⟨H8.out.wri.kept hk9 (by omega) (fun k hk => HS.out k (H5S.out k hk)), H8.out.kept.trans hk9 (fun _ _ h => h) (fun i hi e => by omega), H8.out.base⟩
    have hq8 : Reads w9 q8 sa := HQ8.out.reads.kept hk9 (fun k hk e => by have := HQ8.out.block k hk; omega)
    have HE := end_any w9 rb rv9 [] 0 hrd9
    rw [if_neg (by simp)] at HE
    have HEE := Lib.hid HE
    obtain ⟨a8, c8, hqf8⟩ := hq8.form
    obtain ⟨a9, c9, hqf9⟩ := hf9.reads.form
    have HQA := Lib.hid hq8; have HQB := Lib.hid hf9.reads
    clear hf9 hrd9 hk9 HC8 H8 HQ8 hq8 HE
    subst hqf8 hqf9
    go_wp2_with fail
    refine HEE.out.mono ?_
    rintro e w10 ⟨rfl, rfl⟩
    have EQ := Lib.hid (fun W => eqSame W X)
    have TG := Lib.hid (fun (W : World) (pv : Value) (f : Nat → Value) (hk : Kept (fun _ => False) w W) (hl : LB W pv f (fun i => [sa, sb].getD i []) 2 W.heap.size) => tagged_any s pv f (fun i => [sa, sb].getD i []) 2 W (HT.out.kept hk (fun _ _ h => h)) hl (by omega) (by omega) (fun i hi => by
      match i, hi with
      | 0, _ => show sa.length ≤ 1000; omega
      | 1, _ => show sb.length ≤ 1000; omega))
    rw [HTAG.out] at TG
    have KS := Lib.hid (fun (W : World) (p : Value) (hp : Reads W p X) (hk : Kept (fun _ => False) w W) => ksum_any W p X hp HXB.out (HT.out.kept hk (fun _ _ h => h)) (by omega))
    generalize digS X = dd at EQ TG KS
    go_wp2_with fail
    refine (TG.out _ _ _ (H9.out.kept.then (Kept.alloc _ _ _)) (lb2 w9 _ _ sa sb _ _ HQA.out HQB.out HYA.out HYB.out)).mono ?_
    rintro e w11 ⟨rfl, hk11⟩
    have k911 : Kept (fun _ => False) w9 w11 := (Kept.alloc _ _ _).then hk11
    have H11 := Lib.hid (H9.out.on k911 (fun _ _ h => h))
    have HQA11 := Lib.hid (HQA.out.kept k911 (fun _ _ h => h)); have HQB11 := Lib.hid (HQB.out.kept k911 (fun _ _ h => h))
    clear hk11 k911 H9 HQA HQB HEE
    go_wp2_with fail
    refine (out_any w11 wb v4 X H11.out.wri.reads (by omega) H11.out.wri.cell).mono ?_
    rintro e w12 ⟨p12, rfl, hf12, hk12⟩
    have HF12 := Lib.hid hf12.reads
    have K12 := Lib.hid (H11.out.kept.then hk12)
    have HQA12 := Lib.hid (HQA11.out.kept hk12 (fun _ _ h => h)); have HQB12 := Lib.hid (HQB11.out.kept hk12 (fun _ _ h => h))
    clear hf12 hk12 HQA11 HQB11 H11
    go_wp2_with fail
    refine (KS.out w12 p12 HF12.out K12.out).mono ?_
    rintro e w13 ⟨rfl, hk13⟩
    have K13 := Lib.hid (K12.out.then hk13)
    have HQA13 := Lib.hid (HQA12.out.kept hk13 (fun _ _ h => h)); have HQB13 := Lib.hid (HQB12.out.kept hk13 (fun _ _ h => h))
    have he := EQ.out w13
    clear hk13 HQA12 HQB12 HF12
    go_wp2_with fail
    clear he
    refine (TG.out _ _ _ (K13.out.then (Kept.alloc _ _ _)) (lb2 w13 _ _ sa sb _ _ (HRA.out.kept K13.out (fun _ _ h => h)) (HRB.out.kept K13.out (fun _ _ h => h)) HYA.out HYB.out)).mono ?_
    rintro e w14 ⟨rfl, hk14⟩
    have k1314 : Kept (fun _ => False) w13 w14 := (Kept.alloc _ _ _).then hk14
    have K14 := Lib.hid (K13.out.then k1314)
    have HQA14 := Lib.hid (HQA13.out.kept k1314 (fun _ _ h => h)); have HQB14 := Lib.hid (HQB13.out.kept k1314 (fun _ _ h => h))
    clear hk14 k1314 HQA13 HQB13
    go_wp2_with fail
    refine (TG.out _ _ _ (K14.out.then (Kept.alloc _ _ _)) (lb2 w14 _ _ sa sb _ _ HQA14.out HQB14.out HYA.out HYB.out)).mono ?_
    rintro e w15 ⟨rfl, hk15⟩
    have K15 := Lib.hid (K14.out.then ((Kept.alloc _ _ _).then hk15))
    have he := EQ.out w15
    clear hk15 HQA14 HQB14
    go_wp2_with fail
    go_ret
    exact ⟨rfl, K15.out⟩
  · have e1 : min (s.size : Int) 200 = 200 := by omega
    have e2 : (200 : Int) ≤ (s.size : Int) := by omega
    have htz : (s.extract 0 200).size ≤ 200 := by rw [ByteArray.size_extract]; omega
    have HTZ := Lib.hid htz; clear htz
    go_wp2_with fail
    go_quiet ((first | (go_at_call 14; with_reducible exact quiet_leftK (HSA0.out _)) | (go_at_call 14; with_reducible exact quiet_leftK (HSB0.out _))))
    go_wp2_with fail
    clear e1 e2
    generalize s.extract 0 200 = t at HTZ ⊢
    have h201 := HTZ.out
    have K1 := k0.drewN nq
    generalize w0.drewN nq = wN at K1 ⊢
    refine (newWriter_any wN).mono ?_
    rintro e w1 ⟨rfl, hw1⟩
    have H1 : WK w w1 wN.heap.size (.slice none 0 0) [] := ⟨by rw [hw1]; exact wr_new wN wN.heap.size (Nat.le_refl _), by rw [hw1]; exact K1.then (Kept.alloc _ _ _), K1.size⟩
    have hbase : w.heap.size ≤ wN.heap.size := K1.size
    have H1 := Lib.hid H1
    clear K1 hw1 k0 HSA HSB HSA0 HSB0
    generalize wN.heap.size = wb at H1 hbase ⊢
    go_wp2_with fail
    refine (string_any t w1 wb _ wb _ H1.out.wri (by simp) (by omega) (by have := H1.out.wri.lt; omega)).mono ?_
    rintro e w2 ⟨rfl, v2, hwr2, hs2⟩
    rw [List.nil_append] at hwr2
    have H2 := Lib.hid (H1.out.step hwr2 hs2)
    have l1 := enc_len (v := t.size) (by omega)
    have l2 := strB_length t
    have lT : (enc t.size ++ strB t).length ≤ 210 := by rw [List.length_append]; omega
    clear hwr2 hs2 H1
    go_wp2_with fail
    refine (wbytes_any _ sa w2 wb _ wb _ H2.out.wri (HRA.out.kept H2.out.kept (fun _ _ h => h)) (fun k hk => ⟨fun e => by have := HOA.out k hk; omega, fun e => by have := HOA.out k hk; have := (H2.out.wri.own.lt k e).1; omega⟩) (by omega) (by omega) (by have := H2.out.wri.lt; omega)).mono ?_
    rintro e w3 ⟨rfl, v3, hwr3, hs3⟩
    have H3 := Lib.hid (H2.out.step hwr3 hs3)
    have l3 := enc_len (v := sa.length) (by omega)
    have l4 := enc_len (v := sb.length) (by omega)
    have lA : ((enc t.size ++ strB t) ++ (enc sa.length ++ sa)).length ≤ 820 := by rw [List.length_append]; have h9 : (enc sa.length ++ sa).length = (enc sa.length).length + sa.length := List.length_append; omega
    clear hwr3 hs3 H2
    go_wp2_with fail
    refine (wbytes_any _ sb w3 wb _ wb _ H3.out.wri (HRB.out.kept H3.out.kept (fun _ _ h => h)) (fun k hk => ⟨fun e => by have := HOB.out k hk; omega, fun e => by have := HOB.out k hk; have := (H3.out.wri.own.lt k e).1; omega⟩) (by omega) (by omega) (by have := H3.out.wri.lt; omega)).mono ?_
    rintro e w4 ⟨rfl, v4, hwr4, hs4⟩
    have h4 := H3.out.step hwr4 hs4
    have lB : (((enc t.size ++ strB t) ++ (enc sa.length ++ sa)) ++ (enc sb.length ++ sb)).length ≤ 1440 := by rw [List.length_append]; have h9 : (enc sb.length ++ sb).length = (enc sb.length).length + sb.length := List.length_append; omega
    have hxb : ∀ x ∈ ((enc t.size ++ strB t) ++ (enc sa.length ++ sa)) ++ (enc sb.length ++ sb), x < 256 := by
      intro x hx
      rcases List.mem_append.1 hx with hx | hx
      · rcases List.mem_append.1 hx with hx | hx
        · exact (List.mem_append.1 hx).elim (enc_byte _ x) (strB_byte t x)
        · exact (List.mem_append.1 hx).elim (enc_byte _ x) (HYA.out x)
      · exact (List.mem_append.1 hx).elim (enc_byte _ x) (HYB.out x)
    have htag : (enc t.size ++ strB t) ++ encN (fun i => [sa, sb].getD i []) 2 = ((enc t.size ++ strB t) ++ (enc sa.length ++ sa)) ++ (enc sb.length ++ sb) := by rw [encN_two]; simp only [List.append_assoc]
    have hpc : ((enc t.size ++ strB t) ++ (enc sa.length ++ sa)) ++ (enc sb.length ++ sb) = (enc (strB t).length ++ strB t) ++ ((enc sa.length ++ sa) ++ ((enc sb.length ++ sb) ++ [])) := by simp only [l2, List.append_nil, List.append_assoc]
    obtain ⟨X, hX⟩ : ∃ X, X = ((enc t.size ++ strB t) ++ (enc sa.length ++ sa)) ++ (enc sb.length ++ sb) := ⟨_, rfl⟩
    rw [← hX] at h4 lB hxb htag hpc
    have H4 := Lib.hid h4; have HXB := Lib.hid hxb; have HTAG := Lib.hid htag; have HPC := Lib.hid hpc; have L2 := Lib.hid l2
    clear hwr4 hs4 H3 h4 hX hxb htag hpc lA lT l1 l2 l3 l4
    go_wp2_with fail
    refine (out_any w4 wb v4 X H4.out.wri.reads (by omega) H4.out.wri.cell).mono ?_
    rintro e w5 ⟨p5, rfl, hf5, hk5⟩
    have H5 := Lib.hid (H4.out.on hk5 (fun _ _ h => h))
    have HF5 := Lib.hid hf5.reads
    clear hf5 hk5 H4
    go_wp2_with fail
    refine (newReader_any w5 p5 X HF5.out (by omega)).mono ?_
    rintro e w6 ⟨rb, rv, rfl, hrd6, hrb6, _, hk6⟩
    have H6 := Lib.hid (H5.out.on hk6 (fun _ _ h => h))
    have hwb6 : wb < w5.heap.size := H5.out.wri.lt
    rw [HPC.out] at hrd6
    have HRD6 := Lib.hid hrd6
    have n6 := hrd6.lt
    clear hrd6 hk6 HF5
    have hS : ∀ i, i < w5.heap.size → ¬ i = rb := fun i hi e => by omega
    have h5s : ∀ k, v4.ownBlock = some k → k < w5.heap.size := fun k hk => (H5.out.wri.own.lt k hk).2
    have H5S := Lib.hid h5s
    have hwb0 : w.heap.size ≤ w5.heap.size := H5.out.kept.size
    have b6 : ∀ b ∈ (enc (strB t).length ++ strB t) ++ ((enc sa.length ++ sa) ++ ((enc sb.length ++ sb) ++ [])), b < 256 := by rw [← HPC.out]; exact HXB.out
    have b7 : ∀ b ∈ (enc sa.length ++ sa) ++ ((enc sb.length ++ sb) ++ []), b < 256 := fun b hb => b6 b (List.mem_append_right _ hb)
    have b8 : ∀ b ∈ (enc sb.length ++ sb) ++ [], b < 256 := fun b hb => b7 b (List.mem_append_right _ hb)
    have P6 := pieceS_enc (strB t) ((enc sa.length ++ sa) ++ ((enc sb.length ++ sb) ++ [])) 200 (by rw [L2.out]; omega) (by rw [L2.out]; omega)
    have P7 := pieceS_enc sa ((enc sb.length ++ sb) ++ []) 600 (by omega) (by omega)
    have P8 := pieceS_enc sb [] 600 (by omega) (by omega)
    have C6 := rstring_any w6 rb rv _ 0 200 HRD6.out b6 (Lib.hid (by omega))
    rw [P6, strOf_strB] at C6
    have HC6 := Lib.hid C6
    have HB7 := Lib.hid b7; have HB8 := Lib.hid b8; have HP7 := Lib.hid P7; have HP8 := Lib.hid P8; have HS := Lib.hid hS
    clear C6 b6 b7 b8 P6 P7 P8 hS h5s H5
    go_wp2_with fail
    refine HC6.out.mono ?_
    rintro e w7 ⟨rfl, rv7, hrd7, _, hk7⟩
    have k7 : Kept (fun k => k = rb) w6 w7 := hk7
    have H7 : Hid (WK w w7 wb v4 X) := Lib.hid ⟨H6.out.wri.kept k7 (by omega) (fun k hk => HS.out k (H5S.out k hk)), H6.out.kept.trans k7 (fun _ _ h => h) (fun i hi e => by omega), H6.out.base⟩
    have C7 := rbytes_any w7 rb rv7 _ 0 600 hrd7 HB7.out (Lib.hid (by omega)) (by rw [HP7.out]; show sa.length ≤ _; omega)
    rw [HP7.out] at C7
    have HC7 := Lib.hid C7
    have n7 := hrd7.lt
    clear C7 hrd7 hk7 k7 HC6 HRD6 H6
    go_wp2_with fail
    refine HC7.out.mono ?_
    rintro e w8 ⟨q8, rv8, rfl, hf8, hrd8, _, hk8⟩
    have H8 : Hid (WK w w8 wb v4 X) := Lib.hid ⟨H7.out.wri.kept hk8 (by omega) (fun k hk => HS.out k (H5S.out k hk)), H7.out.kept.trans hk8 (fun _ _ h => h) (fun i hi e => by omega), H7.out.base⟩
    have C8 := rbytes_any w8 rb rv8 _ 0 600 hrd8 HB8.out (Lib.hid (by omega)) (by rw [HP8.out]; show sb.length ≤ _; omega)
    rw [HP8.out] at C8
    have HC8 := Lib.hid C8
    have HQ8 := Lib.hid hf8
    have n8 := hrd8.lt
    clear C8 hrd8 hk8 HC7 H7
    have n78 : rb < w7.heap.size := n7
    go_wp2_with fail
    refine HC8.out.mono ?_
    rintro e w9 ⟨q9, rv9, rfl, hf9, hrd9, _, hk9⟩
    have H9 : Hid (WK w w9 wb v4 X) := Lib.hid ⟨H8.out.wri.kept hk9 (by omega) (fun k hk => HS.out k (H5S.out k hk)), H8.out.kept.trans hk9 (fun _ _ h => h) (fun i hi e => by omega), H8.out.base⟩
    have hq8 : Reads w9 q8 sa := HQ8.out.reads.kept hk9 (fun k hk e => by have := HQ8.out.block k hk; omega)
    have HE := end_any w9 rb rv9 [] 0 hrd9
    rw [if_neg (by simp)] at HE
    have HEE := Lib.hid HE
    obtain ⟨a8, c8, hqf8⟩ := hq8.form
    obtain ⟨a9, c9, hqf9⟩ := hf9.reads.form
    have HQA := Lib.hid hq8; have HQB := Lib.hid hf9.reads
    clear hf9 hrd9 hk9 HC8 H8 HQ8 hq8 HE
    subst hqf8 hqf9
    go_wp2_with fail
    refine HEE.out.mono ?_
    rintro e w10 ⟨rfl, rfl⟩
    have EQ := Lib.hid (fun W => eqSame W X)
    have TG := Lib.hid (fun (W : World) (pv : Value) (f : Nat → Value) (hk : Kept (fun _ => False) w W) (hl : LB W pv f (fun i => [sa, sb].getD i []) 2 W.heap.size) => tagged_any t pv f (fun i => [sa, sb].getD i []) 2 W (HT.out.kept hk (fun _ _ h => h)) hl (by omega) (by omega) (fun i hi => by
      match i, hi with
      | 0, _ => show sa.length ≤ 1000; omega
      | 1, _ => show sb.length ≤ 1000; omega))
    rw [HTAG.out] at TG
    have KS := Lib.hid (fun (W : World) (p : Value) (hp : Reads W p X) (hk : Kept (fun _ => False) w W) => ksum_any W p X hp HXB.out (HT.out.kept hk (fun _ _ h => h)) (by omega))
    generalize digS X = dd at EQ TG KS
    go_wp2_with fail
    refine (TG.out _ _ _ (H9.out.kept.then (Kept.alloc _ _ _)) (lb2 w9 _ _ sa sb _ _ HQA.out HQB.out HYA.out HYB.out)).mono ?_
    rintro e w11 ⟨rfl, hk11⟩
    have k911 : Kept (fun _ => False) w9 w11 := (Kept.alloc _ _ _).then hk11
    have H11 := Lib.hid (H9.out.on k911 (fun _ _ h => h))
    have HQA11 := Lib.hid (HQA.out.kept k911 (fun _ _ h => h)); have HQB11 := Lib.hid (HQB.out.kept k911 (fun _ _ h => h))
    clear hk11 k911 H9 HQA HQB HEE
    go_wp2_with fail
    refine (out_any w11 wb v4 X H11.out.wri.reads (by omega) H11.out.wri.cell).mono ?_
    rintro e w12 ⟨p12, rfl, hf12, hk12⟩
    have HF12 := Lib.hid hf12.reads
    have K12 := Lib.hid (H11.out.kept.then hk12)
    have HQA12 := Lib.hid (HQA11.out.kept hk12 (fun _ _ h => h)); have HQB12 := Lib.hid (HQB11.out.kept hk12 (fun _ _ h => h))
    clear hf12 hk12 HQA11 HQB11 H11
    go_wp2_with fail
    refine (KS.out w12 p12 HF12.out K12.out).mono ?_
    rintro e w13 ⟨rfl, hk13⟩
    have K13 := Lib.hid (K12.out.then hk13)
    have HQA13 := Lib.hid (HQA12.out.kept hk13 (fun _ _ h => h)); have HQB13 := Lib.hid (HQB12.out.kept hk13 (fun _ _ h => h))
    have he := EQ.out w13
    clear hk13 HQA12 HQB12 HF12
    go_wp2_with fail
    clear he
    refine (TG.out _ _ _ (K13.out.then (Kept.alloc _ _ _)) (lb2 w13 _ _ sa sb _ _ (HRA.out.kept K13.out (fun _ _ h => h)) (HRB.out.kept K13.out (fun _ _ h => h)) HYA.out HYB.out)).mono ?_
    rintro e w14 ⟨rfl, hk14⟩
    have k1314 : Kept (fun _ => False) w13 w14 := (Kept.alloc _ _ _).then hk14
    have K14 := Lib.hid (K13.out.then k1314)
    have HQA14 := Lib.hid (HQA13.out.kept k1314 (fun _ _ h => h)); have HQB14 := Lib.hid (HQB13.out.kept k1314 (fun _ _ h => h))
    clear hk14 k1314 HQA13 HQB13
    go_wp2_with fail
    refine (TG.out _ _ _ (K14.out.then (Kept.alloc _ _ _)) (lb2 w14 _ _ sa sb _ _ HQA14.out HQB14.out HYA.out HYB.out)).mono ?_
    rintro e w15 ⟨rfl, hk15⟩
    have K15 := Lib.hid (K14.out.then ((Kept.alloc _ _ _).then hk15))
    have he := EQ.out w15
    clear hk15 HQA14 HQB14
    go_wp2_with fail
    go_ret
    exact ⟨rfl, K15.out⟩
end Go.Proofs.YtaoidabelclipaaDoor
