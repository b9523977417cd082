/-
  arbaclaw01.BitsParses: the walk.
-/
import Derived.Test.YteaagllpkcpedaaDoorBAw
namespace Go.Proofs.YteaagllpkcpedaaDoor
open Go.RowKit

set_option maxRecDepth 100000 in
set_option maxHeartbeats 1600000 in
theorem parses_law (x : ByteArray) (hx : x.size ≤ 9223372036854775807) (w : World) (hL : Libs w) :
    Calls Tryd.prog 7 #[.string x] w fun e w' => e = .returned (.bool true) ∧ Kept (fun _ => False) w w' := by
  have HL := Lib.hid hL
  clear hL
  go_enter Tryd.func7, Tryd.ntmps7
  go_wp2_with fail
  refine (aw_any w HL.out).mono ?_
  rintro e w1 ⟨rfl, k1⟩
  have K1 := Lib.hid k1
  clear k1
  go_wp2_with fail
  obtain ⟨y, hy⟩ : ∃ y, y = x.extract 0 (min (x.size : Int) 200).toNat := ⟨_, rfl⟩
  have hys : y.size ≤ 200 := by rw [hy]; simp; omega
  rw [← hy]
  clear hy
  refine (parse_any w1 y (by omega) (HL.out.kept K1.out)).mono ?_
  rintro e w2 ⟨⟨_, rfl⟩ | ⟨v, M, hp, rfl, hset, _⟩, k2⟩
  · have K2 := Lib.hid ((K1.out.then k2).then (Kept.alloc (fun _ => False) w2 (.cells #[.int .u64 0, .slice none 0 0] 28)))
    clear k2
    go_wp2_with fail
    refine (empty_any _ 0 0 0 none).mono ?_
    rintro e w3 ⟨rfl, k3⟩
    have K3 := Lib.hid (K2.out.then k3)
    clear k3
    go_wp2_with fail
    go_ret
    exact ⟨by simp, K3.out⟩
  · obtain ⟨h1, h2⟩ := parseS_text hp
    have hset0 := hset
    obtain ⟨hv, hs, rfl, hw, _, _⟩ := hset.ex
    obtain ⟨a, c, rfl⟩ := hw.form
    have KA := Kept.alloc (fun _ => False) w2 (.cells #[.int .u64 (M % 2 ^ 64 : Nat), .slice a hs.length c] 28)
    have K2 := Lib.hid ((K1.out.then k2).then KA)
    have HSET := Lib.hid (hset0.onC KA)
    have HT : Hid ((⟨(textS M).toArray⟩ : ByteArray) = y) := by
      show _ = _
      rw [h1]
    have H2 := Lib.hid h2
    clear h1 h2 hp k2 hset hset0 hw KA
    generalize hs.length = n at *
    obtain ⟨lo, hlo⟩ : ∃ lo, lo = M % 2 ^ 64 := ⟨_, rfl⟩
    rw [← hlo] at K2 HSET ⊢
    clear hlo
    go_wp2_with fail
    have hL2 := HL.out.kept K2.out
    refine (text_any _ _ M HSET.out H2.out hL2.tz hL2.tabP).mono ?_
    rintro e w3 ⟨rfl, k3⟩
    rw [HT.out]
    have K3 := Lib.hid (K2.out.then k3)
    clear k3 hL2
    go_wp2_with fail
    go_ret
    exact ⟨by simp, K3.out⟩
end Go.Proofs.YteaagllpkcpedaaDoor
