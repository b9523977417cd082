/-
  arbacref03.Text; arbaclaw03.KeccakTexts returns true.
-/
import Derived.Test.YtnjmffmdlaobdabDoorKecJ
import Derived.Laws.Concat
namespace Go.Proofs.YtnjmffmdlaobdabDoor
open Go.RowKit

theorem extract_hx (h : Nat) (hl : h < 16) : (ByteArray.mk #[48, 49, 50, 51, 52, 53, 54, 55, 56, 57, 97, 98, 99, 100, 101, 102]).extract h (h + 1) = strN [hx h] := by
  have e : h = 0 ∨ h = 1 ∨ h = 2 ∨ h = 3 ∨ h = 4 ∨ h = 5 ∨ h = 6 ∨ h = 7 ∨ h = 8 ∨ h = 9 ∨ h = 10 ∨ h = 11 ∨ h = 12 ∨ h = 13 ∨ h = 14 ∨ h = 15 := by omega
  rcases e with rfl | rfl | rfl | rfl | rfl | rfl | rfl | rfl | rfl | rfl | rfl | rfl | rfl | rfl | rfl | rfl <;> (apply ByteArray.ext; first | rfl | decide +kernel | (simp [strN, strOfNums, hx, ByteArray.data_extract]; done))
theorem strN_append (a b : List Nat) : strN a ++ strN b = strN (a ++ b) := by
  apply ByteArray.ext
  simp [strN, strOfNums, ByteArray.data_append]

set_option maxRecDepth 100000 in
set_option maxHeartbeats 1600000 in
theorem rtext_any (w : World) (g off c : Nat) (d : List Nat) (hd : d.length = 32) (hb : ∀ x ∈ d, x < 256) (hB : Blk w g off d) (hg : g < w.heap.size) :
    Calls Tryd.prog 37 #[.slice (some ⟨g, off, none⟩) 32 c] w fun e w' => e = .returned (.string (strN (texL d))) ∧ Kept (fun _ => False) w w' := by
  have HB := Lib.hid hb; have HBL := Lib.hid hB; have HD := Lib.hid hd
  clear hb hB hd
  go_enter Tryd.func37, Tryd.ntmps37
  go_wp2_with fail
  go_loopw [4, 6, 9] (fun tv _ i W => ∃ k : Nat, k ≤ 32 ∧ i = .int .i64 k ∧ tv = .string (strN (texL (d.take k))) ∧ Kept (fun _ => False) w W) (fun _ _ i _ => 32 - (intOf i).toNat)
  case atStart => exact ⟨0, by omega, rfl, rfl, Kept.refl _ _⟩
  case round =>
    obtain ⟨k, hk, rfl, rfl, hkw⟩ := hrel
    by_cases hlt : k < 32
    · have hc := (HBL.out.kept hkw hg (fun h => h)).cell k (by rw [HD.out]; exact hlt)
      have ht := texL_succ d k (by rw [HD.out]; exact hlt)
      have hb256 := getD_lt256 HB.out k
      generalize d.getD k 0 = b at hc ht hb256
      obtain ⟨h, hh⟩ : ∃ h, h = b / 16 := ⟨_, rfl⟩
      obtain ⟨l, hl⟩ : ∃ l, l = b % 16 := ⟨_, rfl⟩
      rw [← hh, ← hl] at ht
      obtain ⟨h1, hh1⟩ : ∃ x, x = h + 1 := ⟨_, rfl⟩
      obtain ⟨l1, hl1⟩ : ∃ x, x = l + 1 := ⟨_, rfl⟩
      have m0 : (k : Int) < 32 := by omega
      have m1 : (0 : Int) ≤ k := by omega
      have q1 : (b : Int).tdiv 16 = (h : Int) := by rw [Int.tdiv_eq_ediv_of_nonneg (by omega)]; omega
      have q2 : (b : Int) / 16 = (h : Int) := by omega
      have r1 : (b : Int).tmod 16 = (l : Int) := by rw [Int.tmod_eq_emod_of_nonneg (by omega)]; omega
      have r2 : (b : Int) % 16 = (l : Int) := by omega
      have a1 : IntKind.u8.wrap ((h : Int) + 1) = (h1 : Int) := by rw [IntWalk.u8_in _ (by omega)]; omega
      have a2 : IntKind.u8.wrap ((l : Int) + 1) = (l1 : Int) := by rw [IntWalk.u8_in _ (by omega)]; omega
      have w1 : IntKind.u8.wrap (h : Int) = (h : Int) := IntWalk.u8_in _ (by omega)
      have w2 : IntKind.u8.wrap (l : Int) = (l : Int) := IntWalk.u8_in _ (by omega)
      have b1 : (0 : Int) ≤ h := by omega
      have b2 : (h : Int) ≤ h1 := by omega
      have b3 : (h1 : Int) ≤ 16 := by omega
      have b4 : (0 : Int) ≤ l := by omega
      have b5 : (l : Int) ≤ l1 := by omega
      have b6 : (l1 : Int) ≤ 16 := by omega
      have x1 := extract_hx h (by omega)
      have x2 := extract_hx l (by omega)
      rw [← hh1] at x1
      rw [← hl1] at x2
      have s1 : (strN [hx h]).size = 1 := strN_size _
      have s2 : (strN [hx l]).size = 1 := strN_size _
      have f1 : strN [hx h] ++ strN [hx l] = strN [hx h, hx l] := strN_append _ _
      have s3 : (strN [hx h, hx l]).size = 2 := strN_size _
      have f2 : strN (texL (d.take k)) ++ strN [hx h, hx l] = strN (texL (d.take (k + 1))) := by rw [strN_append, ht]
      have s4 : (strN (texL (d.take k))).size = 2 * k := by rw [strN_size, texL_length]; simp [HD.out]; omega
      generalize strN [hx h, hx l] = F at *
      generalize strN [hx h] = E1 at *
      generalize strN [hx l] = E2 at *
      obtain ⟨Y2, hY2⟩ : ∃ Y2, Y2 = strN (texL (d.take (k + 1))) := ⟨_, rfl⟩
      rw [← hY2] at f2
      have HY2 := Lib.hid hY2
      clear hY2
      obtain ⟨m, hmk⟩ : ∃ m, m = 2 * k := ⟨_, rfl⟩
      rw [← hmk] at s4
      have mm : m ≤ 64 := by omega
      have HMK := Lib.hid hmk
      clear hmk
      have HT := Lib.hid ht; have HKW := Lib.hid hkw
      have HH := Lib.hid hh; have HL := Lib.hid hl; have HH1 := Lib.hid hh1; have HL1 := Lib.hid hl1
      clear ht hkw hh hl hh1 hl1
      clear HT
      generalize strN (texL (d.take k)) = Y at *
      go_wp2_with fail
      go_quiet (fail)
      have HK2 := Lib.hid (HKW.out.drewN nq)
      generalize wr.drewN nq = wd at *
      go_wp2_with fail
      go_roundw
      case rel =>
        first
          | exact ⟨k + 1, by omega, by go_num, by rw [HY2.out], HK2.out⟩
          | ((repeat apply Exists.intro); exact ⟨⟨k + 1, by omega, by go_num, by rw [HY2.out], HK2.out⟩, rfl⟩)
      case measure => simp [intOf]; omega
    · obtain rfl : k = 32 := by omega
      have hd' := HD.out
      rw [List.take_of_length_le (by omega)]
      have HK := Lib.hid hkw
      obtain ⟨Y, hY⟩ : ∃ Y, Y = strN (texL d) := ⟨_, rfl⟩
      rw [← hY]
      have HY := Lib.hid hY
      clear hkw hd' hY
      go_wp2_with fail
      go_ret
      exact ⟨by first | rfl | (rw [HY.out]; rfl) | rw [← HY.out]; rfl, HK.out⟩

/-- A load of a whole array, asked for or not (a guard that holds). -/
theorem wpList_load_w {P : Program} {ops : Array Oper} {rest : List Oper} {o : Oper} {a : Act} {w : World} {Q : Exit → Act → World → Prop} (hw : Region.wanted o (yielded ops a.tmps) = true) (ty : TypeId) (x : Operand) (ho : o.op = .load ty x)
    (g off : Nat) (hx : a.eval x = .pointer (some ⟨g, off, none⟩)) (cs : List Value) (d : TypeDesc) (hc : ∀ j v, cs[j]? = some v → w.cell? ⟨g, off + j, none⟩ = some v)
    (hu : P.underlying ty = some d) (hd : (match d with | .struct _ | .array _ _ => true | _ => false) = true) (hi : (P.info? ty).map (·.size) = some cs.length)
    (h : wpList P ops Q rest (a.put o.dst (.agg cs.toArray)) w) : wpList P ops Q (o :: rest) a w := by
  refine wpList_step fun K hK => ?_
  rw [if_pos hw]
  unfold Oper.wp execOp
  simp only [ho, hx, Instr.loadAt, Instr.sureAddr, Sem.run_bind, Sem.run_pure, Result.andThen_ok, run_loadVar_at w g off ty cs d hc hu hd hi]
  exact hK _ _ h

theorem texL_at : ∀ (d : List Nat) (i : Nat), i < d.length → (texL d).getD (2 * i) 0 = hx (d.getD i 0 / 16) ∧ (texL d).getD (2 * i + 1) 0 = hx (d.getD i 0 % 16)
  | [], i, h => by simp at h
  | x :: d, 0, _ => ⟨rfl, rfl⟩
  | x :: d, i + 1, h => by
    have := texL_at d i (by simpa using h)
    have e : texL (x :: d) = hx (x / 16) :: hx (x % 16) :: texL d := rfl
    rw [e, show 2 * (i + 1) = 2 * i + 1 + 1 by omega]
    simpa [List.getD] using this
theorem dv_hx (h : Nat) (hl : h < 16) : dv (hx h) = (h : Int) := by
  unfold hx dv
  by_cases h10 : h < 10
  · rw [if_pos h10, if_pos (by omega)]; omega
  · rw [if_neg h10, if_neg (by omega), if_pos (by omega)]; omega
theorem hx_lt (h : Nat) (hl : h < 16) : hx h < 256 := by unfold hx; split <;> omega
theorem texL_lt (d : List Nat) (hb : ∀ x ∈ d, x < 256) : ∀ x ∈ texL d, x < 256 := by
  intro x hx'
  simp only [texL, List.mem_flatMap, List.mem_cons, List.not_mem_nil, or_false] at hx'
  obtain ⟨b, hbm, rfl | rfl⟩ := hx'
  · exact hx_lt _ (by have := hb b hbm; omega)
  · exact hx_lt _ (Nat.mod_lt _ (by omega))
theorem par_tex (d : List Nat) (hd : d.length = 32) (hb : ∀ x ∈ d, x < 256) : (∀ i, i < 32 → pOk (texL d) i) ∧ parV (texL d) = d := by
  have key : ∀ i, i < 32 → dv ((texL d).getD (2 * i) 0) = ((d.getD i 0 / 16 : Nat) : Int) ∧ dv ((texL d).getD (2 * i + 1) 0) = ((d.getD i 0 % 16 : Nat) : Int) := fun i hi => by
    have h := texL_at d i (by omega)
    have h2 := getD_lt256 hb i
    rw [h.1, h.2, dv_hx _ (by omega), dv_hx _ (Nat.mod_lt _ (by omega))]
    exact ⟨rfl, rfl⟩
  refine ⟨fun i hi => ?_, List.ext_getElem (by rw [parV_length, hd]) fun i h1 h2 => ?_⟩
  · have := key i hi
    unfold pOk
    rw [this.1, this.2]
    omega
  · have hi : i < 32 := by omega
    have e1 := parV_at (texL d) i hi
    have e2 : pV (texL d) i = d.getD i 0 := by
      have := key i hi
      unfold pV
      rw [this.1, this.2]
      simp only [Int.toNat_natCast]
      omega
    rw [e2] at e1
    simpa [List.getD, h1, h2] using e1

set_option maxRecDepth 100000 in
set_option maxHeartbeats 1600000 in
theorem texts_any (d : List Nat) (w : World) (hT : KTab w) (hd : d.length = 32) (hb : ∀ x ∈ d, x < 256) :
    Calls Tryd.prog 9 #[.agg (arr8 d).toArray] w fun e w' => e = .returned (.bool true) ∧ Kept (fun _ => False) w w' := by
  have HT := Lib.hid hT; have HB := Lib.hid hb; have HD := Lib.hid hd
  have hpt := par_tex d hd hb
  have htl := texL_length d
  have htb := texL_lt d hb
  have BD := blk_new w (arr8 d).toArray 24 d rfl
  have ka : Kept (fun _ => False) w (w.alloc (.cells (arr8 d).toArray 24)) := Kept.alloc _ _ _
  have hsz : (Tryd.prog.info? 25).map (·.size) = some (arr8 d).length := by rw [arr8_length, hd]; exact size32
  have hsz2 : (Tryd.prog.info? 24).map (·.size) = some (arr8 d).length := by rw [arr8_length, hd]; kernel_rfl
  have TX := fun W => text_any W d hd hb
  have PA := fun W => parse_any W (texL d) htb
  have RT := fun (W : World) (g off c : Nat) (h : Blk W g off d) (hg : g < W.heap.size) => rtext_any W g off c d hd hb h hg
  have EQ := fun (W : World) => eq32 W d d hd hd
  have hG := fun (W : World) (h : Blk W w.heap.size 0 d) => h.get
  change ∀ W, Calls _ _ _ W (fun e w' => e = .returned (.string (strN (texL d))) ∧ _) at TX
  obtain ⟨cs, hcs⟩ : ∃ cs, cs = arr8 d := ⟨_, rfl⟩
  have HBD := Lib.hid BD; have HKA := Lib.hid ka; have HPT := Lib.hid hpt; have HTL := Lib.hid htl
  have h1 : w.heap.size < (w.alloc (.cells (arr8 d).toArray 24)).heap.size := by simp
  have HN := Lib.hid h1
  have ho := arr8_one d
  rw [← hcs] at HBD HKA TX EQ hG hsz hsz2 HN ho
  rw [← hcs]
  have HTX := Lib.hid TX; have HPA := Lib.hid PA; have HRT := Lib.hid RT; have HEQ := Lib.hid EQ; have HG := Lib.hid hG; have HSZ := Lib.hid hsz; have HSZ2 := Lib.hid hsz2; have HCS := Lib.hid hcs; have HO := Lib.hid ho
  clear hT hb hd hpt htl htb BD ka hsz hsz2 TX PA RT EQ hG hcs h1 ho
  go_enter Tryd.func9, Tryd.ntmps9
  go_wp2_with fail
  refine (awake3_any _ (HT.out.kept HKA.out (fun _ _ h => h))).mono ?_
  rintro e w1 ⟨rfl, k1⟩
  have B1 := Lib.hid (HBD.out.kept k1 HN.out (fun h => h))
  have K1 := Lib.hid (HKA.out.then k1)
  have n1 := Nat.lt_of_lt_of_le HN.out k1.size
  clear k1 HBD HKA HN
  have G1 := Lib.hid (HG.out w1 B1.out)
  go_wp2_with (first | (refine wpList_load_at rfl 24 _ rfl w.heap.size 0 rfl cs _ G1.out Tryd.underlying24 rfl HSZ2.out ?_))
  refine (HTX.out w1).mono ?_
  rintro e w2 ⟨rfl, k2⟩
  have B2 := Lib.hid (B1.out.kept k2 n1 (fun h => h))
  have K2 := Lib.hid (K1.out.then k2)
  have n2 := Nat.lt_of_lt_of_le n1 k2.size
  clear k2 B1 K1 G1 n1
  have PA2 := Lib.hid (HPA.out w2)
  generalize strN (texL d) = S at *
  go_wp2_with fail
  refine PA2.out.mono ?_
  rintro e w3 ⟨k3, (⟨_, _, rfl⟩ | ⟨hbad, _⟩)⟩
  · rw [HPT.out.2]
    have B3 := Lib.hid (B2.out.kept k3 n2 (fun h => h))
    have K3 := Lib.hid (K2.out.then k3)
    have n3 := Nat.lt_of_lt_of_le n2 k3.size
    clear k3 B2 K2 PA2
    have ZL := blk_new w3 zero32.toArray 25 (List.replicate 32 0) (by simp [zero32])
    have kz : Kept (fun _ => False) w3 ((w3.alloc (.cells zero32.toArray 25)).setCells w3.heap.size 0 cs) := (Kept.alloc (fun _ => False) _ _).trans (Kept.setCells _ _ _ _) (fun _ _ h => h) (fun i hi e => by omega)
    have z1 : ∀ j, j < cs.length → ((w3.alloc (.cells zero32.toArray 25)).cell? ⟨w3.heap.size, 0 + j, none⟩).isSome = true := fun j hj => by
      rw [HCS.out, arr8_length, HD.out] at hj; rw [ZL.cell j (by simpa using hj)]; rfl
    have z2 : ∀ j, j < cs.length → (w3.alloc (.cells zero32.toArray 25)).frozen? ⟨w3.heap.size, 0 + j, none⟩ = false := fun j hj => by
      rw [HCS.out, arr8_length, HD.out] at hj; exact ZL.free j (by simpa using hj)
    have L4 := ZL.setCells (t := d) (by simp [HD.out])
    rw [← HCS.out] at L4
    have B4 := B3.out.kept kz n3 (fun h => h)
    have K4 := Lib.hid (K3.out.then kz)
    have n4 := Nat.lt_of_lt_of_le n3 kz.size
    have n4' : w3.heap.size < ((w3.alloc (.cells zero32.toArray 25)).setCells w3.heap.size 0 cs).heap.size := Nat.lt_of_lt_of_le (by simp) (Kept.setCells w3.heap.size cs 0 (w3.alloc (.cells zero32.toArray 25))).size
    have RT4 := Lib.hid (HRT.out _ w.heap.size 0 32 B4 n4)
    have HL4 := Lib.hid L4; have HB4 := Lib.hid B4; have Z1 := Lib.hid z1; have Z2 := Lib.hid z2; have N4 := Lib.hid n4; have N4' := Lib.hid n4'
    have hne : w3.heap.size ≠ w.heap.size := by omega
    clear ZL kz z1 z2 L4 B4 n4 n4' B3 K3
    rw [← HCS.out]
    go_wp2_with (first | (refine wpList_store_at rfl 25 _ _ rfl w3.heap.size 0 cs rfl rfl Z1.out Z2.out HO.out HSZ.out ?_))
    refine RT4.out.mono ?_
    rintro e w5 ⟨rfl, k5⟩
    have B5 := HB4.out.kept k5 N4.out (fun h => h)
    have L5 := (HL4.out.kept k5 N4'.out (fun h => h)).get
    have K5 := Lib.hid (K4.out.then k5)
    rw [← HCS.out] at L5
    have G5 := Lib.hid (HG.out w5 B5)
    have HL5 := Lib.hid L5
    have he := HEQ.out w5
    simp only [decide_true] at he
    clear k5 B5 L5 HB4 HL4 Z1 Z2 N4 N4' K4 RT4
    go_wp2_with (first | (refine wpList_load_w (by rfl) 25 _ rfl w3.heap.size 0 rfl cs _ HL5.out Tryd.underlying25 rfl HSZ.out ?_) | (refine wpList_load_w (by rfl) 24 _ rfl w.heap.size 0 rfl cs _ G5.out Tryd.underlying24 rfl HSZ2.out ?_))
    go_ret
    exact ⟨rfl, K5.out⟩
  · exact absurd hbad (by
      rintro (h | ⟨i, hi, h⟩)
      · exact h (by rw [HTL.out, HD.out])
      · exact h (HPT.out.1 i hi))
end Go.Proofs.YtnjmffmdlaobdabDoor
