/-
  arbaclaw01.BitsTexts: the walk.
-/
import Derived.Test.YteaagllpkcpedaaDoorBAw
import Derived.Test.YteaagllpkcpedaaDoorBBx
import Derived.Test.YteaagllpkcpedaaDoorBRt
import Derived.Test.YteaagllpkcpedaaDoorBPd
namespace Go.Proofs.YteaagllpkcpedaaDoor
open Go.RowKit

theorem ofL_le : ∀ l : List Int, (ofL l).length ≤ l.length := by
  have key : ∀ (l acc : List Int), (l.foldl withL acc).length ≤ acc.length + l.length := by
    intro l
    induction l with
    | nil => intro acc; simp
    | cons x t ih =>
      intro acc
      rw [List.foldl_cons]
      have h1 := ih (withL acc x)
      have h2 := withL_len acc x
      simp; omega
  intro l
  have := key l []
  simpa [ofL] using this
theorem textS_len {M : Nat} (h : (memM M 4096).length ≤ 60) : (textS M).length ≤ 400 := by
  unfold textS
  have := txt_le (memM M 4096) (fun x hx => by have := memM_in M 4096 x hx; omega)
  simp; omega

set_option maxRecDepth 100000 in
set_option maxHeartbeats 3200000 in
theorem texts_law (w : World) (v : Value) (xs : List Int) (h : Ints w v xs) (hL : Libs w) :
    Calls Tryd.prog 6 #[v] w fun e w' => e = .returned (.bool true) ∧ Kept (fun _ => False) w w' := by
  have HL := Lib.hid hL; have HI := Lib.hid h
  clear hL h
  go_enter Tryd.func6, Tryd.ntmps6
  go_wp2_with fail
  refine (aw_any w HL.out).mono ?_
  rintro e w1 ⟨rfl, k1⟩
  have KK := Lib.hid k1
  clear k1
  go_wp2_with fail
  refine (few_any _ _ xs (HI.out.kept KK.out (fun _ _ h => h))).mono ?_
  rintro e w2 ⟨u, rfl, hu, rfl⟩
  have hxl : (xs.take 60).length ≤ 60 := by simp; omega
  have HX := Lib.hid hxl
  have HU := Lib.hid hu
  clear hu hxl HI
  generalize xs.take 60 = X at HU HX
  go_wp2_with fail
  refine (rof_any _ _ X HU.out (by have := HX.out; omega)).mono ?_
  rintro e w3 ⟨ua, rfl, ha, k3⟩
  have hml := ofL_le X
  rw [ofL_mask] at ha hml
  obtain ⟨M, hM⟩ : ∃ M, M = maskOf X := ⟨_, rfl⟩
  rw [← hM] at ha hml
  have SM : Hid (Small M) := hM ▸ maskOf_small _
  have HA := Lib.hid ha.ints
  have HTL : Hid ((textS M).length ≤ 400) := textS_len (by have := HX.out; omega)
  have HML : Hid ((memM M 4096).length ≤ 60) := by have := HX.out; show _ ≤ _; omega
  replace KK := Lib.hid (KK.out.then k3)
  clear ha hml k3 hM HU HX
  have HR : Hid (∀ W, Ints W ua (memM M 4096) → Calls Tryd.prog 26 #[ua] W fun e w' => e = .returned (.string (strL (textS M))) ∧ Kept (fun _ => False) W w') := fun W hW =>
    rtext_any W ua _ hW (by have := HML.out; omega) (fun x hx => by have := memM_in M 4096 x hx; omega)
  obtain ⟨S, hS⟩ : ∃ S, S = strL (textS M) := ⟨_, rfl⟩
  rw [← hS] at HR
  have HS := Lib.hid hS
  clear hS
  go_wp2_with fail
  refine (HR.out _ HA.out).mono ?_
  rintro e w4 ⟨rfl, k4⟩
  replace HA := Lib.hid (HA.out.kept k4 (fun _ _ h => h))
  replace KK := Lib.hid (KK.out.then k4)
  clear k4
  go_wp2_with fail
  refine (parse_any _ S (by rw [HS.out, strL_size]; have := HTL.out; omega) (HL.out.kept KK.out)).mono ?_
  have hps : parseS S = some M := by rw [HS.out]; exact parse_text SM.out
  rintro e w5 ⟨⟨hno, _⟩ | ⟨sv, M', hp, rfl, hset, _⟩, k5⟩
  · rw [hps] at hno; cases hno
  · rw [hps] at hp
    injection hp with hp
    subst hp
    replace HA := Lib.hid (HA.out.kept k5 (fun _ _ h => h))
    replace KK := Lib.hid (KK.out.then k5)
    have HSET := Lib.hid hset
    obtain ⟨lo, pa, n, c, rfl⟩ := hset.form
    have k6 := Kept.alloc (fun _ => False) w5 (.cells #[.int .u64 lo, .slice pa n c] 28)
    have BX : Hid (BoxAt (w5.alloc (.cells #[.int .u64 lo, .slice pa n c] 28)) w5.heap.size lo (.slice pa n c)) := ⟨by go_simp, by go_simp⟩
    replace HA := Lib.hid (HA.out.kept k6 (fun _ _ h => h))
    replace HSET := Lib.hid (HSET.out.onC k6)
    replace KK := Lib.hid (KK.out.then k6)
    clear hset hps k5 k6
    go_wp2_with fail
    refine (of_any _ _ _ HA.out).mono ?_
    rintro e w7 ⟨v7, rfl, hs7, -, k7⟩
    rw [maskOf_memS SM.out] at hs7
    have HS7 := Lib.hid hs7
    replace HA := Lib.hid (HA.out.kept k7 (fun _ _ h => h))
    replace HSET := Lib.hid (HSET.out.onC k7)
    replace BX := Lib.hid (BX.out.onC k7)
    replace KK := Lib.hid (KK.out.then k7)
    clear hs7 k7
    go_wp2_with fail
    have hL7 := HL.out.kept KK.out
    refine (text_any _ _ M HS7.out SM.out hL7.tz hL7.tabP).mono ?_
    rintro e w8 ⟨rfl, k8⟩
    rw [show (⟨(textS M).toArray⟩ : ByteArray) = S from HS.out.symm]
    replace HA := Lib.hid (HA.out.kept k8 (fun _ _ h => h))
    replace HSET := Lib.hid (HSET.out.onC k8)
    replace BX := Lib.hid (BX.out.onC k8)
    replace KK := Lib.hid (KK.out.then k8)
    clear k8 hL7 HS7
    go_wp2_with fail
    refine (HR.out _ HA.out).mono ?_
    rintro e w9 ⟨rfl, k9⟩
    replace HA := Lib.hid (HA.out.kept k9 (fun _ _ h => h))
    replace HSET := Lib.hid (HSET.out.onC k9)
    replace BX := Lib.hid (BX.out.onC k9)
    replace KK := Lib.hid (KK.out.then k9)
    clear k9
    obtain ⟨b0, b1⟩ := BX.out
    go_wp2_with fail
    refine (is_any _ _ _ M HSET.out SM.out HA.out (HL.out.kept KK.out).tz).mono ?_
    rintro e w10 ⟨rfl, k10⟩
    replace KK := Lib.hid (KK.out.then k10)
    clear k10 b0 b1
    go_wp2_with fail
    go_ret
    exact ⟨by simp, KK.out⟩
end Go.Proofs.YteaagllpkcpedaaDoor
