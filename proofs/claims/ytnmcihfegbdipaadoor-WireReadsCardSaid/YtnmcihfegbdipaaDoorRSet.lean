/-
  wire.Reader.Set.
-/
import Derived.Test.YtnmcihfegbdipaaDoorRead
import Derived.Test.YtnmcihfegbdipaaDoorRStr
import Derived.Test.YtnmcihfegbdipaaDoorBytes
namespace Go.Proofs.YtnmcihfegbdipaaDoor
open Go.RowKit

theorem SetV.kept {S : Nat → Prop} {a b : World} {v : Value} {M : Nat} (h : SetV a v M) (hk : Kept S a b) (hn : ∀ k, setBlk v k → ¬ S k) : SetV b v M := by
  obtain ⟨hv, hs, he, hw, hc, hnil⟩ := h.ex
  exact ⟨⟨hv, hs, he, hw.kept hk (fun k hk' => hn k ⟨_, _, he, hk'⟩), hc, hnil⟩⟩

theorem SetV.lt {w : World} {v : Value} {M : Nat} (h : SetV w v M) : ∀ k, setBlk v k → k < w.heap.size := by
  obtain ⟨hv, hs, he, hw, hc, hnil⟩ := h.ex
  rintro k ⟨lo, hv', he', hb⟩
  rw [he] at he'
  cases he'
  exact hw.lt k hb

theorem SetV.form {w : World} {v : Value} {M : Nat} (h : SetV w v M) : ∃ (lo : Nat) (a : Option Addr) (n c : Nat), v = .agg #[.int .u64 lo, .slice a n c] := by
  obtain ⟨hv, hs, he, hw, hc, hnil⟩ := h.ex
  obtain ⟨a, c, e⟩ := hw.form
  exact ⟨_, a, _, c, by rw [he, e]⟩

/-- What 'Set' gives: the set, the bytes that are left, the error. -/
def setS (xs : List Nat) (most err : Int) : Nat × List Nat × Int :=
  if err ≠ 0 then (0, xs, err) else if (pieceS xs 512 0).2.2 ≠ 0 then (0, xs, (pieceS xs 512 0).2.2)
  else if BadSet (pieceS xs 512 0).1 then (0, xs, 6)
  else if numLE (pieceS xs 512 0).1 ≠ 0 ∧ most < (Nat.log2 (numLE (pieceS xs 512 0).1) : Int) then (0, xs, 2)
  else (numLE (pieceS xs 512 0).1, (pieceS xs 512 0).2.1, 0)

theorem pieceS_err (xs : List Nat) (most err : Int) (h : (pieceS xs most err).2.2 ≠ 0) : (pieceS xs most err).1 = [] ∧ (pieceS xs most err).2.1 = xs := by
  revert h
  unfold pieceS
  repeat' split
  all_goals simp

theorem pieceS_len (xs : List Nat) (most err : Int) (h : (pieceS xs most err).2.2 = 0) : ((pieceS xs most err).1.length : Int) ≤ most := by
  revert h
  unfold pieceS
  repeat' split
  all_goals first
    | (intro h; simp_all; done)
    | (intro h; simp; omega)

/-- Behind the two stores into the result. -/
theorem set_result {w W : World} {rb : Nat} {v : Value} {xs : List Nat} {e : Int} (x y : Value) (h : Rd W rb v xs e) (hk : Kept (fun k => k = rb) w W) (hv : ∀ k, v.ownBlock = some k → k < w.heap.size) (hb : rb < w.heap.size) :
    Rd ((W.setCell ⟨w.heap.size, 0, none⟩ x).setCell ⟨w.heap.size, 1, none⟩ y) rb v xs e ∧ Kept (fun k => k = rb) w ((W.setCell ⟨w.heap.size, 0, none⟩ x).setCell ⟨w.heap.size, 1, none⟩ y) := by
  have k2 := (Kept.setCell (fun k => k = w.heap.size) W ⟨w.heap.size, 0, none⟩ x rfl).trans (Kept.setCell (fun k => k = w.heap.size) _ ⟨w.heap.size, 1, none⟩ y rfl) (fun _ _ h => h) (fun _ _ h => h) (T := fun k => k = w.heap.size)
  exact ⟨h.kept k2 (by omega) (fun k hk e => by have := hv k hk; omega), hk.trans k2 (fun _ _ h => h) (fun i hi e => by omega)⟩

set_option maxRecDepth 100000 in
set_option maxHeartbeats 400000 in
theorem rset_err (w : World) (rb : Nat) (v : Value) (xs : List Nat) (err most : Int) (h : Rd w rb v xs err) (he : err ≠ 0) :
    Calls Tryd.prog 73 #[.pointer (some ⟨rb, 0, none⟩), .int .i64 most] w fun e w' => e = .returned (.agg #[.int .u64 0, .slice none 0 0]) ∧ Rd w' rb v xs err ∧ Kept (fun _ => False) w w' := by
  have hk := Kept.alloc (fun _ => False) w (.cells #[.int .u64 0, .slice none 0 0] 27)
  have h1 := h.kept hk (fun h => h) (fun _ _ h => h)
  have H1 := Lib.hid h1; clear h1 h
  go_enter Tryd.func73, Tryd.ntmps73
  go_wp2_with fail
  refine (ready_no _ rb err he H1.out.cell1).mono ?_
  rintro e w' ⟨rfl, rfl⟩
  go_wp2_with fail
  exact bodyPost_ret (v := .agg #[.int .u64 0, .slice none 0 0]) (by simp [results, Tryd.results73, go_sem]) rfl ⟨rfl, H1.out, hk⟩

set_option maxRecDepth 100000 in
set_option maxHeartbeats 1600000 in
theorem rset_ok (w : World) (rb : Nat) (v : Value) (xs : List Nat) (most : Int) (h : Rd w rb v xs 0) (hby : ∀ b ∈ xs, b < 256) :
    Calls Tryd.prog 73 #[.pointer (some ⟨rb, 0, none⟩), .int .i64 most] w fun e w' => ∃ sv v', e = .returned sv ∧ SetV w' sv (setS xs most 0).1 ∧ (∀ k, setBlk sv k → w.heap.size ≤ k) ∧
      Rd w' rb v' (setS xs most 0).2.1 (setS xs most 0).2.2 ∧ v'.ownBlock = v.ownBlock ∧ Kept (fun k => k = rb) w w' := by
  have hk := Kept.alloc (fun _ => False) w (.cells #[.int .u64 0, .slice none 0 0] 27)
  have h1 := h.kept hk (fun h => h) (fun _ _ h => h)
  have hblt := h.lt
  have hvlt := h.reads.lt
  have hpb := pieceS_byte 512 0 hby
  have hpl := pieceS_len xs 512 0
  have hpe := pieceS_err xs 512 0
  have hp := piece_any _ rb v xs 0 512 h1 hby (by show (512 : Int) < 9223372036854775808; omega)
  have hS : setS xs most 0 = if (pieceS xs 512 0).2.2 ≠ 0 then (0, xs, (pieceS xs 512 0).2.2) else if BadSet (pieceS xs 512 0).1 then (0, xs, 6)
      else if numLE (pieceS xs 512 0).1 ≠ 0 ∧ most < (Nat.log2 (numLE (pieceS xs 512 0).1) : Int) then (0, xs, 2) else (numLE (pieceS xs 512 0).1, (pieceS xs 512 0).2.1, 0) := by
    rw [setS, if_neg (by simp)]
  generalize pieceS xs 512 0 = q at hp hS hpb hpl hpe
  obtain ⟨ps, left, er⟩ := q
  simp only at hp hS hpb hpl hpe
  have c0 := h1.cell0
  have H1 := Lib.hid h1
  have HP := Lib.hid hp; clear hp
  have HS := Lib.hid hS; clear hS
  have HPB := Lib.hid hpb; have HPL := Lib.hid hpl; have HPE := Lib.hid hpe; clear hpb hpl hpe
  have HK := Lib.hid hk
  obtain ⟨va, vn, vc, hvf⟩ : ∃ a n c, v = .slice a n c := by
    rcases h.reads with ⟨rfl, _⟩ | ⟨g, off, cap, rfl, _⟩
    · exact ⟨_, _, _, rfl⟩
    · exact ⟨_, _, _, rfl⟩
  clear h h1 hk hby
  subst hvf
  have HVL := Lib.hid hvlt; clear hvlt
  by_cases hbad : er = 0 ∧ BadSet ps
  · obtain ⟨rfl, hbad⟩ := hbad
    have hI : setS xs most 0 = (0, xs, 6) := by rw [HS.out, if_neg (by simp), if_pos hbad]
    rw [hI]
    clear hI HS
    go_enter Tryd.func73, Tryd.ntmps73
    go_wp2_with fail
    refine (ready_yes _ rb H1.out.cell1).mono ?_
    rintro e w' ⟨rfl, rfl⟩
    go_wp2_with fail
    refine HP.out.mono ?_
    rintro e w1 ⟨p, v1, rfl, hr1, hpo, hrd1, hv1, hk1⟩
    go_wp2_with fail
    refine (read_bad w1 p ps hr1 hbad).mono ?_
    rintro e w2 ⟨rfl, hk2⟩
    go_wp2_with fail
    refine (greatest_any _ _ 0 (setv_zero _) (by intro e he; exact Nat.pow_pos (by omega))).mono ?_
    rw [if_pos rfl, show decide ((0 : Nat) ≠ 0) = false from rfl]
    rintro e w3 ⟨rfl, hk3⟩
    have hk23 := (Kept.alloc (fun _ => False) w2 (.cells #[.int .u64 0, .slice none 0 0] 27)).then hk3
    have hrd3 := (hrd1.kept hk2 (fun h => h) (fun _ _ h => h)).kept hk23 (fun h => h) (fun _ _ h => h)
    have hap := H1.out.apart
    have hrs3 := ((H1.out.reads.kept hk1 (fun k hk e => by subst e; exact hap hk)).kept hk2 (fun _ _ h => h)).kept hk23 (fun _ _ h => h)
    have hkW := (hk1.trans hk2 (fun _ _ h => h) (fun _ _ h => h.elim)).trans hk23 (fun _ _ h => h) (fun _ _ h => h.elim)
    have hkk : Kept (fun k => k = rb) w w3 := HK.out.trans hkW (fun _ _ h => h.elim) (fun _ _ h => h)
    have k0 := hrd3.cell0; have k1 := hrd3.cell1; have k2 := hrd3.free0; have k3 := hrd3.free1; have kl := hrd3.lt
    obtain ⟨r0, r1, rlt⟩ := box_cells hkW (by omega)
    have rf0 : w3.frozen? ⟨w.heap.size, 0, none⟩ = false := (hkW.frozen (p := ⟨w.heap.size, 0, none⟩) (by simp) (by simp; omega)).trans (by go_simp)
    have rf1 : w3.frozen? ⟨w.heap.size, 1, none⟩ = false := (hkW.frozen (p := ⟨w.heap.size, 1, none⟩) (by simp) (by simp; omega)).trans (by go_simp)
    have hfin := set_result (.int .u64 0) (.slice none 0 0) ((hrd3.setLeft hrs3 hap).setErr 6) ((hkk.trans (Kept.setCell (fun k => k = rb) w3 ⟨rb, 0, none⟩ (.slice va vn vc) rfl) (fun _ _ h => h) (fun _ _ h => h)).trans (Kept.setCell (fun k => k = rb) _ ⟨rb, 1, none⟩ (.int .i64 6) rfl) (fun _ _ h => h) (fun _ _ h => h)) HVL.out hblt
    have HF := Lib.hid hfin
    clear hfin hkk hrd3 hrs3 hrd1 hv1 hr1 hpo hk1 hk2 hk3 hk23 hap hkW
    go_wp2_with fail
    refine bodyPost_ret (v := .agg #[.int .u64 0, .slice none 0 0]) (by simp [results, Tryd.results73, go_sem, r0, r1]) rfl ⟨_, _, rfl, setv_zero _, ?_, HF.out.1, rfl, HF.out.2⟩
    rintro k ⟨lo, hv, he, hb⟩
    cases he
    simp [Value.ownBlock] at hb
  · have hng : ¬ BadSet ps := by
      by_cases he : er = 0
      · exact fun h => hbad ⟨he, h⟩
      · have := (HPE.out he).1
        rw [this]
        rintro (h | ⟨h, _⟩) <;> simp at h
    have hsm : Small (numLE ps) := by
      refine numLE_small ps HPB.out.1 ?_
      rcases Nat.lt_or_ge 512 ps.length with hh | hh
      · exact absurd (Or.inl hh) hng
      · exact hh
    by_cases hrange : er = 0 ∧ numLE ps ≠ 0 ∧ most < (Nat.log2 (numLE ps) : Int)
    · obtain ⟨rfl, hne, hgt⟩ := hrange
      have hI : setS xs most 0 = (0, xs, 2) := by rw [HS.out, if_neg (by simp), if_neg hng, if_pos ⟨hne, hgt⟩]
      rw [hI]
      clear hI HS hbad
      have HNG := Lib.hid hng; clear hng
      have HSM := Lib.hid hsm; clear hsm
      have HNE := Lib.hid hne; clear hne
      obtain ⟨T, hT⟩ : ∃ T, T = Nat.log2 (numLE ps) := ⟨_, rfl⟩
      rw [← hT] at hgt
      have HT := Lib.hid hT; clear hT
      go_enter Tryd.func73, Tryd.ntmps73
      go_wp2_with fail
      refine (ready_yes _ rb H1.out.cell1).mono ?_
      rintro e w' ⟨rfl, rfl⟩
      go_wp2_with fail
      refine HP.out.mono ?_
      rintro e w1 ⟨p, v1, rfl, hr1, hpo, hrd1, hv1, hk1⟩
      go_wp2_with fail
      refine (read_good w1 p ps hr1 HPB.out.1 HNG.out).mono ?_
      rintro e w2 ⟨sv, rfl, hsv, hsb, hk2⟩
      obtain ⟨lo, a, n, c, hsf⟩ := hsv.form
      have HSV := Lib.hid hsv; clear hsv
      have HSB := Lib.hid hsb; clear hsb
      subst hsf
      go_wp2_with fail
      refine (greatest_any _ _ (numLE ps) (HSV.out.kept (Kept.alloc (fun _ => False) w2 _) (fun _ _ h => h)) HSM.out).mono ?_
      rw [if_neg HNE.out, show decide (numLE ps ≠ 0) = true by simpa using HNE.out, ← HT.out]
      rintro e w3 ⟨rfl, hk3⟩
      have hk23 := (Kept.alloc (fun _ => False) w2 (.cells #[.int .u64 lo, .slice a n c] 27)).then hk3
      have hrd3 := (hrd1.kept hk2 (fun h => h) (fun _ _ h => h)).kept hk23 (fun h => h) (fun _ _ h => h)
      have hap := H1.out.apart
      have hrs3 := ((H1.out.reads.kept hk1 (fun k hk e => by subst e; exact hap hk)).kept hk2 (fun _ _ h => h)).kept hk23 (fun _ _ h => h)
      have hkW := (hk1.trans hk2 (fun _ _ h => h) (fun _ _ h => h.elim)).trans hk23 (fun _ _ h => h) (fun _ _ h => h.elim)
      have hkk : Kept (fun k => k = rb) w w3 := HK.out.trans hkW (fun _ _ h => h.elim) (fun _ _ h => h)
      have k0 := hrd3.cell0; have k1 := hrd3.cell1; have k2 := hrd3.free0; have k3 := hrd3.free1; have kl := hrd3.lt
      obtain ⟨r0, r1, rlt⟩ := box_cells hkW (by omega)
      have rf0 : w3.frozen? ⟨w.heap.size, 0, none⟩ = false := (hkW.frozen (p := ⟨w.heap.size, 0, none⟩) (by simp) (by simp; omega)).trans (by go_simp)
      have rf1 : w3.frozen? ⟨w.heap.size, 1, none⟩ = false := (hkW.frozen (p := ⟨w.heap.size, 1, none⟩) (by simp) (by simp; omega)).trans (by go_simp)
      have hfin := set_result (.int .u64 0) (.slice none 0 0) ((hrd3.setLeft hrs3 hap).setErr 2) ((hkk.trans (Kept.setCell (fun k => k = rb) w3 ⟨rb, 0, none⟩ (.slice va vn vc) rfl) (fun _ _ h => h) (fun _ _ h => h)).trans (Kept.setCell (fun k => k = rb) _ ⟨rb, 1, none⟩ (.int .i64 2) rfl) (fun _ _ h => h) (fun _ _ h => h)) HVL.out hblt
      have HF := Lib.hid hfin
      clear hfin hkk hrd3 hrs3 hrd1 hv1 hr1 hpo hk1 hk2 hk3 hk23 hap hkW
      go_wp2_with fail
      refine bodyPost_ret (v := .agg #[.int .u64 0, .slice none 0 0]) (by simp [results, Tryd.results73, go_sem, r0, r1]) rfl ⟨_, _, rfl, setv_zero _, ?_, HF.out.1, rfl, HF.out.2⟩
      rintro k ⟨lo, hv, he, hb⟩
      cases he
      simp [Value.ownBlock] at hb
    · have hI : setS xs most 0 = (numLE ps, left, er) := by
        rw [HS.out]
        by_cases he : er = 0
        · rw [if_neg (by simpa using he), if_neg hng, if_neg (fun h => hrange ⟨he, h⟩), he]
        · have h2 := HPE.out he
          rw [if_pos he, h2.1, h2.2]; rfl
      rw [hI]
      have hmm : numLE ps = 0 ∨ (numLE ps ≠ 0 ∧ (Nat.log2 (numLE ps) : Int) ≤ most) := by
        by_cases h0 : numLE ps = 0
        · exact Or.inl h0
        · refine Or.inr ⟨h0, ?_⟩
          by_cases he : er = 0
          · by_cases hh : most < (Nat.log2 (numLE ps) : Int)
            · exact absurd ⟨he, h0, hh⟩ hrange
            · exact Int.not_lt.1 hh
          · exfalso
            rw [(HPE.out he).1] at h0
            exact h0 rfl
      clear hI HS hbad hrange
      have HNG := Lib.hid hng; clear hng
      have HSM := Lib.hid hsm; clear hsm
      obtain ⟨gv, gb, hgr, hgt⟩ : ∃ (gv : Nat) (gb : Bool), Hid (gv = (if numLE ps = 0 then 0 else Nat.log2 (numLE ps)) ∧ gb = decide (numLE ps ≠ 0)) ∧ (gb = false ∨ (gb = true ∧ (gv : Int) ≤ most)) := by
        refine ⟨_, _, ⟨rfl, rfl⟩, ?_⟩
        rcases hmm with h | ⟨h, h2⟩
        · exact Or.inl (by simp [h])
        · exact Or.inr ⟨by simpa using h, by rw [if_neg h]; exact h2⟩
      clear hmm
      rcases hgt with rfl | ⟨rfl, hgt⟩
      all_goals
        go_enter Tryd.func73, Tryd.ntmps73
        go_wp2_with fail
        refine (ready_yes _ rb H1.out.cell1).mono ?_
        rintro e w' ⟨rfl, rfl⟩
        go_wp2_with fail
        refine HP.out.mono ?_
        rintro e w1 ⟨p, v1, rfl, hr1, hpo, hrd1, hv1, hk1⟩
        have HV1 := Lib.hid hv1; clear hv1
        go_wp2_with fail
        refine (read_good w1 p ps hr1 HPB.out.1 HNG.out).mono ?_
        rintro e w2 ⟨sv, rfl, hsv, hsb, hk2⟩
        obtain ⟨lo, a, n, c, hsf⟩ := hsv.form
        have HSV := Lib.hid hsv; clear hsv
        have HSB := Lib.hid hsb; clear hsb
        subst hsf
        go_wp2_with fail
        refine (greatest_any _ _ (numLE ps) (HSV.out.kept (Kept.alloc (fun _ => False) w2 _) (fun _ _ h => h)) HSM.out).mono ?_
        rw [← hgr.out.1, ← hgr.out.2]
        rintro e w3 ⟨rfl, hk3⟩
        have hk23 := (Kept.alloc (fun _ => False) w2 (.cells #[.int .u64 lo, .slice a n c] 27)).then hk3
        have hrd3 := (hrd1.kept hk2 (fun h => h) (fun _ _ h => h)).kept hk23 (fun h => h) (fun _ _ h => h)
        have hsv3 := HSV.out.kept hk23 (fun _ _ h => h)
        have hkW := (hk1.trans hk2 (fun _ _ h => h) (fun _ _ h => h.elim)).trans hk23 (fun _ _ h => h) (fun _ _ h => h.elim)
        have hkk : Kept (fun k => k = rb) w w3 := HK.out.trans hkW (fun _ _ h => h.elim) (fun _ _ h => h)
        obtain ⟨r0, r1, rlt⟩ := box_cells hkW (by omega)
        obtain ⟨b0, b1, blt⟩ := box_cells hk3 (fun h => h)
        have rf0 : w3.frozen? ⟨w.heap.size, 0, none⟩ = false := (hkW.frozen (p := ⟨w.heap.size, 0, none⟩) (by simp) (by simp; omega)).trans (by go_simp)
        have rf1 : w3.frozen? ⟨w.heap.size, 1, none⟩ = false := (hkW.frozen (p := ⟨w.heap.size, 1, none⟩) (by simp) (by simp; omega)).trans (by go_simp)
        have s1 := hk1.size
        simp at s1
        have hfin := set_result (.int .u64 lo) (.slice a n c) hrd3 hkk (fun k hk => by rw [HV1.out] at hk; exact HVL.out k hk) hblt
        have hset : SetV ((w3.setCell ⟨w.heap.size, 0, none⟩ (.int .u64 lo)).setCell ⟨w.heap.size, 1, none⟩ (.slice a n c)) (.agg #[.int .u64 lo, .slice a n c]) (numLE ps) :=
          hsv3.kept ((Kept.setCell (fun k => k = w.heap.size) w3 ⟨w.heap.size, 0, none⟩ (.int .u64 lo) rfl).trans (Kept.setCell (fun k => k = w.heap.size) _ ⟨w.heap.size, 1, none⟩ (.slice a n c) rfl) (fun _ _ h => h) (fun _ _ h => h) (T := fun k => k = w.heap.size)) (fun k hk e => by have := HSB.out k hk; omega)
        have hblk : ∀ k, setBlk (.agg #[.int .u64 lo, .slice a n c]) k → w.heap.size ≤ k := fun k hk => by have := HSB.out k hk; omega
        have HF := Lib.hid hfin; have HSE := Lib.hid hset; have HBL := Lib.hid hblk
        clear hfin hkk hrd3 hrd1 hr1 hpo hk1 hk2 hk3 hk23 hkW hset hblk hsv3
        go_wp2_with fail
        exact bodyPost_ret (v := .agg #[.int .u64 lo, .slice a n c]) (by simp [results, Tryd.results73, go_sem, r0, r1]) rfl ⟨_, _, rfl, HSE.out, HBL.out, HF.out.1, HV1.out, HF.out.2⟩

end Go.Proofs.YtnmcihfegbdipaaDoor
