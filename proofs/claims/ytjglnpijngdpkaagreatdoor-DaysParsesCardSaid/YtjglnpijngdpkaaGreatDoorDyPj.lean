/-
  arbaclaw05.DaysParses returns true.
-/
import Derived.Test.YtjglnpijngdpkaaGreatDoorDyRw
import Derived.Test.YtjglnpijngdpkaaGreatDoorDyTl
namespace Go.Proofs.YtjglnpijngdpkaaGreatDoor
open Go.RowKit Go.Shelf
set_option linter.unusedSimpArgs false
set_option linter.unusedVariables false
set_option maxRecDepth 100000

set_option maxHeartbeats 6400000 in
theorem parsesL_any (w0 : World) (s : ByteArray) (hT : LibD w0) :
    Calls Tryz.prog 4 #[.string s] w0 fun e w' => e = .returned (.bool true) ∧ Kept (fun _ => False) w0 w' := by
  have HT := Lib.hid hT
  obtain ⟨k, hk⟩ : ∃ k, k = min s.size 60 := ⟨_, rfl⟩
  obtain ⟨p, hp⟩ : ∃ p, p = s.extract 0 k := ⟨_, rfl⟩
  have hmin : min (s.size : Int) 60 = (k : Int) := by omega
  have hk0 : (0 : Int) ≤ (k : Int) := by omega
  have hk1 : (k : Int) ≤ (s.size : Int) := by omega
  have hps : p.size ≤ 60 := by rw [hp, ByteArray.size_extract]; omega
  have hpq : (splitC 44 p.data.toList).length ≤ 15001 := by
    have h1 := splitC_len 44 p.data.toList
    have h2 : p.data.toList.length = p.size := rfl
    omega
  have HPP : Hid (∀ W, Kept (fun _ => False) w0 W → Calls Tryz.prog 10 #[.string p] W fun e w' => ∃ (a : Option Addr) (n c : Nat) (E : Int), e = .returned (.tuple #[.agg #[.slice a n c], .int .i64 E]) ∧ Kept (fun _ => False) W w' ∧
      ((E = 0 ∧ ∃ t, SetD w' (.agg #[.slice a n c]) t ∧ textD t = p.data.toList) ∨ (E = 6 ∧ SetD w' (.agg #[.slice a n c]) [] ∧ ∀ t, CanD t → textD t ≠ p.data.toList))) := Lib.hid fun W hk => by
    refine (pparseD_any W p (by omega) hpq (HT.out.kept hk)).mono ?_
    rintro e w' ⟨v, E, he, hk2, hc⟩
    rcases hc with ⟨rfl, t, hs, ht⟩ | ⟨rfl, rfl, hno⟩
    · obtain ⟨row, rfl, h4, h5⟩ := hs
      obtain ⟨a, c, rfl, _, _⟩ := h4.form
      exact ⟨a, _, c, 0, he, hk2, Or.inl ⟨rfl, t, ⟨_, rfl, h4, h5⟩, ht⟩⟩
    · exact ⟨none, 0, 0, 6, he, hk2, Or.inr ⟨rfl, ⟨_, rfl, Or.inl ⟨rfl, rfl⟩, CanD.nil⟩, hno⟩⟩
  have HRP := Lib.hid (fun W => rparseD_any W p (by omega) hpq)
  clear hT hk hps hpq
  go_enter Tryz.func4, Tryz.ntmps4
  go_wp2_with fail
  refine (awD_any w0 (libD_tabD HT.out)).mono ?_
  rintro e w1 ⟨rfl, k1⟩
  have HK1 := Lib.hid k1
  clear k1
  go_wp2_with fail
  rw [← hp]
  clear hp
  refine (HPP.out _ HK1.out).mono ?_
  rintro e w2 ⟨a, n, c, E, rfl, k2, hc2⟩
  have HA := Lib.hid (Kept.alloc (fun _ => False) w2 (.cells #[.slice a n c] 26))
  have HK2 := Lib.hid ((HK1.out.then k2).then HA.out)
  have HC : Hid (∀ W, Kept (fun _ => False) (w2.alloc (.cells #[.slice a n c] 26)) W → W.cell? ⟨w2.heap.size, 0, none⟩ = some (.slice a n c)) := Lib.hid fun W k => (k.cell (p := ⟨w2.heap.size, 0, none⟩) (by simp) (fun h => h)).trans (new1P _ _ _)
  clear k2
  rcases hc2 with ⟨rfl, t, hs, ht⟩ | ⟨rfl, hs, hno⟩
  · have HS := Lib.hid (hs.on HA.out); have HTT := Lib.hid ht
    clear hs ht
    go_wp2_with fail
    refine (HRP.out _).mono ?_
    rintro e w3 ⟨fv, ok, rfl, k3, hc3⟩
    have K3 := Lib.hid k3
    have c3 := HC.out _ k3
    clear k3
    rcases hc3 with ⟨rfl, t', f, hct, htt, hf, hfl, hfv⟩ | ⟨rfl, hno⟩
    · obtain rfl := textD_inj hct HS.out.can (htt.trans HTT.out.symm)
      have HF := Lib.hid hf; have HFV := Lib.hid hfv
      clear hf hfv hct htt
      go_wp2_with fail
      refine (isD_any _ _ _ _ f (HS.out.on K3.out) HF.out hfl HFV.out).mono ?_
      rintro e w4 ⟨rfl, k4⟩
      have K4 := Lib.hid (K3.out.then k4)
      have c4 := HC.out _ K4.out
      have HTP : Hid (Calls Tryz.prog 8 #[.agg #[.slice a n c]] w4 fun e w' => e = .returned (.string p) ∧ Kept (fun _ => False) w4 w') := Lib.hid (by
        have h1 := textP_any w4 _ t' (HS.out.on K4.out) ((HT.out.kept (HK2.out.then K4.out)).tab)
        have h2 : (⟨(textD t').toArray⟩ : ByteArray) = p := by rw [HTT.out]
        rwa [h2] at h1)
      clear k4
      go_wp2_with fail
      refine HTP.out.mono ?_
      rintro e w5 ⟨rfl, k5⟩
      have K5 := Lib.hid ((HK2.out.then K4.out).then k5)
      clear k5
      go_wp2_with fail
      go_ret
      exact ⟨rfl, K5.out⟩
    · exact absurd HTT.out (hno t HS.out.can)
  · have HS := Lib.hid (hs.on HA.out); have HNO := Lib.hid hno
    clear hs hno
    go_wp2_with fail
    refine (HRP.out _).mono ?_
    rintro e w3 ⟨fv, ok, rfl, k3, hc3⟩
    have K3 := Lib.hid k3
    have c3 := HC.out _ k3
    clear k3
    rcases hc3 with ⟨rfl, t', f, hct, htt, hf, hfl, hfv⟩ | ⟨rfl, hno⟩
    · exact absurd htt (HNO.out t' hct)
    · clear hno
      go_wp2_with fail
      refine (dayEmpty_any _ [] _ (HS.out.on K3.out)).mono ?_
      rintro e w4 ⟨rfl, k4⟩
      have K4 := Lib.hid ((HK2.out.then K3.out).then k4)
      clear k4
      go_wp2_with fail
      go_ret
      exact ⟨rfl, K4.out⟩
end Go.Proofs.YtjglnpijngdpkaaGreatDoor
