import Derived.Test.YtjglnpijngdpkaaGreatDoorDyLy
import Derived.Test.YtjglnpijngdpkaaGreatDoorDyX
import Derived.Deep.CutRange
/-
  days.parseSpan.
-/
namespace Go.Proofs.YtjglnpijngdpkaaGreatDoor
open Go.RowKit Go.Shelf
set_option linter.unusedSimpArgs false
set_option linter.unusedVariables false
set_option maxRecDepth 100000

/-- A new block of two cells, kept up to some world: its cells, and both written anew. -/
theorem old2D {w0 W : World} {T : TypeId} {a b : Value} (hk : Kept (fun _ => False) (w0.alloc (.cells #[a, b] T)) W) : W.cell? ⟨w0.heap.size, 0, none⟩ = some a ∧ W.cell? ⟨w0.heap.size, 1, none⟩ = some b ∧ W.frozen? ⟨w0.heap.size, 0, none⟩ = false ∧ W.frozen? ⟨w0.heap.size, 1, none⟩ = false := by
  have hb : W.heap[w0.heap.size]? = some (.cells #[a, b] T (0, 0)) := (hk.block _ (by simp) (fun h => h)).trans (heap_alloc_new w0 _)
  refine ⟨?_, ?_, ?_, ?_⟩ <;> simp [World.cell?, World.frozen?, hb]
theorem put2D {w0 W : World} {T : TypeId} {a b : Value} (hk : Kept (fun _ => False) (w0.alloc (.cells #[a, b] T)) W) (x y : Value) :
    Kept (fun _ => False) w0 ((W.setCell ⟨w0.heap.size, 0, none⟩ x).setCell ⟨w0.heap.size, 1, none⟩ y) ∧ ((W.setCell ⟨w0.heap.size, 0, none⟩ x).setCell ⟨w0.heap.size, 1, none⟩ y).cell? ⟨w0.heap.size, 0, none⟩ = some x ∧ ((W.setCell ⟨w0.heap.size, 0, none⟩ x).setCell ⟨w0.heap.size, 1, none⟩ y).cell? ⟨w0.heap.size, 1, none⟩ = some y := by
  obtain ⟨c0, c1, f0, f1⟩ := old2D hk
  have h1 : Kept (fun _ => False) w0 W := (Kept.alloc _ _ _).then hk
  refine ⟨h1.trans ((Kept.setCell (fun k => k = w0.heap.size) W ⟨w0.heap.size, 0, none⟩ x rfl).trans (Kept.setCell (fun k => k = w0.heap.size) _ ⟨w0.heap.size, 1, none⟩ y rfl) (fun _ _ h => h) (fun _ _ h => h)) (fun _ _ h => h) (fun i hi e => by omega), ?_, ?_⟩
  · go_simp
  · go_simp
theorem iface_ne (t : TypeId) (p : Value) : ¬ (Value.iface t p = Value.nilIface) := by intro h; cases h

set_option maxHeartbeats 3200000 in
theorem pspanD_any (s : ByteArray) (hs : s.size ≤ 1000000) (w0 : World) (hL : LibD w0) :
    Calls Tryz.prog 37 #[.string s] w0 fun e w' => ∃ (x y : Int) (ok : Bool), e = .returned (.tuple #[.agg #[.int .i64 x, .int .i64 y], .bool ok]) ∧ Kept (fun _ => False) w0 w' ∧ ((ok = true ∧ spanV s.data.toList = some (x, y)) ∨ (ok = false ∧ spanV s.data.toList = none)) := by
  have HK0 := Lib.hid (Kept.alloc (fun _ => False) w0 (.cells #[.int .i64 0, .int .i64 0] 49))
  have HCUT := Lib.hid (fun W => cut_dash s hs W)
  have HSV := Lib.hid (spanV_cut s)
  have HLB := Lib.hid hL
  have hp := cutP_size s
  have hq := cutQ_size s
  obtain ⟨V, hV⟩ : ∃ V, V = spanV s.data.toList := ⟨_, rfl⟩
  rw [← hV] at HSV ⊢
  generalize cutP s = P at *
  generalize cutQ s = Qb at *
  generalize cutO s = O at *
  clear hV hL
  go_enter Tryz.func37, Tryz.ntmps37
  go_wp2_with fail
  refine (HCUT.out _).mono ?_
  rintro e w1 ⟨rfl, k1⟩
  have K1 := Lib.hid k1
  have HL1 := Lib.hid (HLB.out.kept (HK0.out.then k1))
  clear k1 HCUT
  rcases ha : Lib.atoiAll P.data.toList with x | _ | _
  · rw [ha] at HSV
    simp only at HSV
    have HA := Lib.hid (fun W => shd_Atoi_ok P x ha (by omega) W)
    clear ha
    go_wp2_with fail
    refine (HA.out _).mono ?_
    rintro e w2 ⟨rfl, k2⟩
    have K2 := Lib.hid (K1.out.then k2)
    have HL2 := Lib.hid (HL1.out.kept k2)
    obtain ⟨c0, c1, f0, f1⟩ := old2D K2.out
    clear k2 HA
    cases O with
    | false =>
      have hv : V = some (x, x) := HSV.out
      obtain ⟨p1, p2, p3⟩ := put2D K2.out (.int .i64 x) (.int .i64 x)
      have P1 := Lib.hid p1
      clear p1 HSV
      go_wp2_with fail
      refine bodyPost_ret (v := .tuple #[.agg #[.int .i64 x, .int .i64 x], .bool true]) (by simp [results, Tryz.results37, go_sem, p2, p3]) rfl ⟨x, x, true, rfl, P1.out, Or.inl ⟨rfl, hv⟩⟩
    | true =>
      by_cases h0 : Qb.size = 0
      · have hv : V = some (x, 30000) := by have := HSV.out; rw [if_pos rfl, if_pos h0] at this; exact this
        obtain ⟨p1, p2, p3⟩ := put2D K2.out (.int .i64 x) (.int .i64 30000)
        have P1 := Lib.hid p1
        obtain rfl : Qb = ⟨#[]⟩ := by
          obtain ⟨l⟩ := Qb
          have : l.size = 0 := h0
          rw [Array.eq_empty_of_size_eq_zero this]
        clear p1 HSV h0
        go_wp2_with fail
        refine bodyPost_ret (v := .tuple #[.agg #[.int .i64 x, .int .i64 30000], .bool true]) (by simp [results, Tryz.results37, go_sem, p2, p3]) rfl ⟨x, 30000, true, rfl, P1.out, Or.inl ⟨rfl, hv⟩⟩
      · have hne : ¬ Qb = ⟨#[]⟩ := fun e => h0 (by rw [e]; rfl)
        have hneb : Qb.toList.isEmpty = false := by rw [ByteArray.toList_eq]; cases h5 : Qb.data.toList with | nil => exact absurd (by show Qb.data.toList.length = 0; rw [h5]; rfl) h0 | cons b r => rfl
        have hV1 := HSV.out
        rw [if_pos rfl, if_neg h0] at hV1
        clear HSV h0
        rcases hb : Lib.atoiAll Qb.data.toList with y | _ | _
        · rw [hb] at hV1
          have HV1 := Lib.hid hV1
          have HA := Lib.hid (fun W => shd_Atoi_ok Qb y hb (by omega) W)
          clear hb hV1
          go_wp2_with fail
          refine (HA.out _).mono ?_
          rintro e w3 ⟨rfl, k3⟩
          have K3 := Lib.hid (K2.out.then k3)
          obtain ⟨d0, d1, g0, g1⟩ := old2D K3.out
          clear k3 HA
          go_wp2_with fail
          obtain ⟨p1, p2, p3⟩ := put2D K3.out (.int .i64 x) (.int .i64 y)
          have P1 := Lib.hid p1
          clear p1
          go_region
          go_wp2_with fail
          refine bodyPost_ret (v := .tuple #[.agg #[.int .i64 x, .int .i64 y], .bool true]) (by simp [results, Tryz.results37, go_sem, p2, p3]) rfl ⟨x, y, true, rfl, P1.out.drew, Or.inl ⟨rfl, HV1.out⟩⟩
        · have hV1' : V = none := by rw [hV1, hb]
          have HV1 := Lib.hid hV1'
          have HA := Lib.hid (fun W => shd_Atoi_no Qb (fun v e => by rw [hb] at e; cases e) (by omega) W)
          clear hb hV1
          go_wp2_with fail
          refine (HA.out _ HL2.out).mono ?_
          rintro e w3 ⟨⟨y, N, rfl⟩, k3⟩
          have K3 := Lib.hid (K2.out.then k3)
          obtain ⟨d0, d1, g0, g1⟩ := old2D K3.out
          have hni := iface_ne 148 (.pointer (some ⟨N, 0, none⟩))
          obtain ⟨p1, p2, p3⟩ := put2D K3.out (.int .i64 x) (.int .i64 y)
          have P1 := Lib.hid p1
          clear k3 HA p1
          go_wp2_with fail
          go_region
          go_wp2_with fail
          refine bodyPost_ret (v := .tuple #[.agg #[.int .i64 x, .int .i64 y], .bool false]) (by simp [results, Tryz.results37, go_sem, p2, p3]) rfl ⟨x, y, false, rfl, P1.out.drew, Or.inr ⟨rfl, HV1.out⟩⟩
        · have hV1' : V = none := by rw [hV1, hb]
          have HV1 := Lib.hid hV1'
          have HA := Lib.hid (fun W => shd_Atoi_no Qb (fun v e => by rw [hb] at e; cases e) (by omega) W)
          clear hb hV1
          go_wp2_with fail
          refine (HA.out _ HL2.out).mono ?_
          rintro e w3 ⟨⟨y, N, rfl⟩, k3⟩
          have K3 := Lib.hid (K2.out.then k3)
          obtain ⟨d0, d1, g0, g1⟩ := old2D K3.out
          have hni := iface_ne 148 (.pointer (some ⟨N, 0, none⟩))
          obtain ⟨p1, p2, p3⟩ := put2D K3.out (.int .i64 x) (.int .i64 y)
          have P1 := Lib.hid p1
          clear k3 HA p1
          go_wp2_with fail
          go_region
          go_wp2_with fail
          refine bodyPost_ret (v := .tuple #[.agg #[.int .i64 x, .int .i64 y], .bool false]) (by simp [results, Tryz.results37, go_sem, p2, p3]) rfl ⟨x, y, false, rfl, P1.out.drew, Or.inr ⟨rfl, HV1.out⟩⟩
  · have hV1' : V = none := by have := HSV.out; rw [ha] at this; exact this
    have HV1 := Lib.hid hV1'
    have HA := Lib.hid (fun W => shd_Atoi_no P (fun v e => by rw [ha] at e; cases e) (by omega) W)
    clear ha HSV
    go_wp2_with fail
    refine (HA.out _ HL1.out).mono ?_
    rintro e w2 ⟨⟨y, N, rfl⟩, k2⟩
    have K2 := Lib.hid (K1.out.then k2)
    obtain ⟨c0, c1, f0, f1⟩ := old2D K2.out
    obtain ⟨p1, p2, p3⟩ := put2D K2.out (.int .i64 0) (.int .i64 0)
    have P1 := Lib.hid p1
    clear k2 HA p1
    go_wp2_with fail
    refine bodyPost_ret (v := .tuple #[.agg #[.int .i64 0, .int .i64 0], .bool false]) (by simp [results, Tryz.results37, go_sem, p2, p3]) rfl ⟨0, 0, false, rfl, P1.out, Or.inr ⟨rfl, HV1.out⟩⟩
  · have hV1' : V = none := by have := HSV.out; rw [ha] at this; exact this
    have HV1 := Lib.hid hV1'
    have HA := Lib.hid (fun W => shd_Atoi_no P (fun v e => by rw [ha] at e; cases e) (by omega) W)
    clear ha HSV
    go_wp2_with fail
    refine (HA.out _ HL1.out).mono ?_
    rintro e w2 ⟨⟨y, N, rfl⟩, k2⟩
    have K2 := Lib.hid (K1.out.then k2)
    obtain ⟨c0, c1, f0, f1⟩ := old2D K2.out
    obtain ⟨p1, p2, p3⟩ := put2D K2.out (.int .i64 0) (.int .i64 0)
    have P1 := Lib.hid p1
    clear k2 HA p1
    go_wp2_with fail
    refine bodyPost_ret (v := .tuple #[.agg #[.int .i64 0, .int .i64 0], .bool false]) (by simp [results, Tryz.results37, go_sem, p2, p3]) rfl ⟨0, 0, false, rfl, P1.out, Or.inr ⟨rfl, HV1.out⟩⟩
end Go.Proofs.YtjglnpijngdpkaaGreatDoor
