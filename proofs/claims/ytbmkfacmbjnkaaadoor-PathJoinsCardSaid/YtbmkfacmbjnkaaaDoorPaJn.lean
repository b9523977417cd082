/-
  arbaclaw07.PathJoins: the walk of the law.
-/
import Derived.Test.YtbmkfacmbjnkaaaDoorPaJo
import Derived.Test.YtbmkfacmbjnkaaaDoorPaIn
import Derived.Test.YtbmkfacmbjnkaaaDoorPaAk
namespace Go.Proofs.YtbmkfacmbjnkaaaDoor
open Go.RowKit
set_option linter.unusedSimpArgs false
set_option linter.unusedVariables false

/-- At most 40 bytes of a text. -/
def cut40 (s : ByteArray) : ByteArray := s.extract 0 (min s.size 40)
theorem cut40_size (s : ByteArray) : (cut40 s).size ≤ 40 := by unfold cut40; rw [ByteArray.size_extract]; omega
theorem cut40_small {s : ByteArray} (h : s.size ≤ 40) : cut40 s = s := by
  unfold cut40
  rw [show min s.size 40 = s.size by omega]
  apply ByteArray.ext; simp [ByteArray.data_extract]
theorem cut40_big {s : ByteArray} (h : ¬ s.size ≤ 40) : cut40 s = s.extract 0 40 := by
  unfold cut40
  rw [show min s.size 40 = 40 by omega]

/-- The row behind one more round. -/
theorem jn_push {X : List ByteArray} {xs : List ByteArray} {k : Nat} (hk : k < xs.length) (hX : (xs.take k).map cut40 = X) : (xs.take (k + 1)).map cut40 = X ++ [cut40 (xs.getD k ⟨#[]⟩)] := by
  rw [List.take_add_one, List.map_append, hX, List.getElem?_eq_getElem hk]
  simp [List.getD, hk]

set_option maxRecDepth 100000 in
set_option maxHeartbeats 6400000 in
theorem joins_law (v : Value) (xs : List ByteArray) (w : World) (h : StrsIn w v xs) (hx : ∀ s ∈ xs, s.size ≤ maxLen) :
    Calls Tryd.prog 4 #[v] w fun e w' => e = .returned (.bool true) ∧ Kept (fun _ => False) w w' := by
  obtain ⟨a, cc, rfl, hnc, hcm⟩ := h.form
  unfold maxLen at hcm
  obtain ⟨n, hn⟩ : ∃ n, n = xs.length := ⟨_, rfl⟩
  rw [← hn] at h hnc ⊢
  have HS := Lib.hid h
  have HX := Lib.hid hx
  obtain ⟨m, hm, hm12, hmn⟩ : ∃ m, m = min n 12 ∧ m ≤ 12 ∧ m ≤ n := ⟨_, rfl, by omega, by omega⟩
  have hmi : min (n : Int) 12 = (m : Int) := by omega
  have l0 : (0 : Int) ≤ (m : Int) := by omega
  have l1 : (m : Int) ≤ (cc : Int) := by omega
  obtain ⟨X, hXe⟩ : ∃ X, X = (xs.take m).map cut40 := ⟨_, rfl⟩
  have hXl : X.length ≤ 12 := by rw [hXe]; simp; omega
  have hXz : ∀ y ∈ X, y.size ≤ 40 := fun y hy => by
    rw [hXe] at hy
    obtain ⟨z, _, rfl⟩ := List.mem_map.1 hy
    exact cut40_size z
  have HXE := Lib.hid hXe; have HXL := Lib.hid hXl; have HXZ := Lib.hid hXz
  have HN := Lib.hid hn
  clear h hx hn hm hXe hXl hXz
  go_enter Tryd.func4, Tryd.ntmps4
  go_wp2_with fail
  refine (awake7_any _).mono ?_
  rintro e w1 ⟨rfl, k1⟩
  have K1 := Lib.hid k1
  have HS1 := Lib.hid (HS.out.kept k1)
  clear k1 HS
  go_wp2_with fail
  go_loopw [3, 5, 17] (fun lv sv iv wr => ∃ (k : Nat) (aa : Option Addr) (c : Nat), k ≤ m ∧ iv = .int .i64 k ∧ lv = .slice aa k c ∧ Hid (OwnS wr w1.heap.size (.slice aa k c) ((xs.take k).map cut40)) ∧ Hid (Kept (fun _ => False) w1 wr)) (fun _ _ iv _ => m - (intOf iv).toNat)
  case atStart => exact ⟨0, none, 0, by omega, rfl, rfl, OwnS.nil _ _, Kept.refl _ _⟩
  case round =>
    obtain ⟨k, aa, c, hk, rfl, rfl, ho, hkw⟩ := hrel
    have l2 : (0 : Int) ≤ (k : Int) := by omega
    by_cases hlt : k < m
    · have l3 : (k : Int) < (m : Int) := by omega
      obtain ⟨g, off, rfl, hgl, hcell⟩ := (HS1.out.kept hkw.out).at (k := k) (by have := HN.out; omega)
      have hxz := HX.out (xs.getD k ⟨#[]⟩) (by rw [List.getD_eq_getElem?_getD, List.getElem?_eq_getElem (by have := HN.out; omega)]; exact List.getElem_mem _)
      generalize hbk : (xs.take k).map cut40 = acc at ho
      have hnext := jn_push (by have := HN.out; omega) hbk
      have hal : acc.length = k := by rw [← hbk]; simp; have := HN.out; omega
      obtain ⟨x, hxx⟩ : ∃ x, x = xs.getD k ⟨#[]⟩ := ⟨_, rfl⟩
      rw [← hxx] at hnext hcell hxz
      have HNX := Lib.hid hnext
      have HAL := Lib.hid hal
      have HSZ := Lib.hid hkw.out.size
      have HCE := Lib.hid hcell
      unfold maxLen at hxz
      have hxb : x.size ≤ 9223372036854775807 := by omega
      clear hnext hal hbk hxx hxz
      by_cases h40 : x.size ≤ 40
      · have e1 : min (x.size : Int) 40 = (x.size : Int) := by omega
        have e2 : min x.size 40 = x.size := by omega
        have hc40 := cut40_small h40
        rw [hc40] at HNX
        clear hc40
        go_wp2_with (at_builtin; refine wpList_pushS (by rfl) _ _ rfl rfl w1.heap.size _ acc wr.heap.size x rfl rfl (ho.out.alloc _) (by go_simp) (by have := HAL.out; omega) (by have := HSZ.out; simp; omega) ?_)
        intro a' c' w4 hown hk4
        have hrow : OwnS w4 w1.heap.size (.slice a' (k + 1) c') ((xs.take (k + 1)).map cut40) := by
          have h2 := hown
          rw [HAL.out, ← HNX.out] at h2
          exact h2
        have HR4 := Lib.hid hrow
        have HK4 : Hid (Kept (fun _ => False) w1 w4) := (hkw.out.then (Kept.alloc _ _ _)).trans hk4 (fun _ _ h => h) (fun i hi e => by have := (ho.out.bound i e).1; omega)
        have hl := HAL.out
        clear hown hk4 hrow
        go_wp2_with fail
        go_roundw
        case rel => first | exact ⟨k + 1, a', c', by omega, by go_num, by rw [hl], HR4, HK4⟩ | ((repeat apply Exists.intro); exact ⟨⟨k + 1, a', c', by omega, by go_num, by rw [hl], HR4, HK4⟩, rfl⟩)
        case measure => simp [intOf]; omega
      · have e1 : min (x.size : Int) 40 = 40 := by omega
        have e2 : min x.size 40 = 40 := by omega
        have hc40 := cut40_big h40
        rw [hc40] at HNX
        clear hc40
        go_wp2_with (at_builtin; refine wpList_pushS (by rfl) _ _ rfl rfl w1.heap.size _ acc wr.heap.size (x.extract 0 40) rfl rfl (ho.out.alloc _) (by go_simp) (by have := HAL.out; omega) (by have := HSZ.out; simp; omega) ?_)
        intro a' c' w4 hown hk4
        have hrow : OwnS w4 w1.heap.size (.slice a' (k + 1) c') ((xs.take (k + 1)).map cut40) := by
          have h2 := hown
          rw [HAL.out, ← HNX.out] at h2
          exact h2
        have HR4 := Lib.hid hrow
        have HK4 : Hid (Kept (fun _ => False) w1 w4) := (hkw.out.then (Kept.alloc _ _ _)).trans hk4 (fun _ _ h => h) (fun i hi e => by have := (ho.out.bound i e).1; omega)
        have hl := HAL.out
        clear hown hk4 hrow
        go_wp2_with fail
        go_roundw
        case rel => first | exact ⟨k + 1, a', c', by omega, by go_num, by rw [hl], HR4, HK4⟩ | ((repeat apply Exists.intro); exact ⟨⟨k + 1, a', c', by omega, by go_num, by rw [hl], HR4, HK4⟩, rfl⟩)
        case measure => simp [intOf]; omega
    · have l3 : ¬ (k : Int) < (m : Int) := by omega
      obtain rfl : k = m := by omega
      have hstr : Strs wr (.slice aa k c) X := by
        have h2 := ho.out
        rw [← HXE.out] at h2
        have h3 : X.length = k := by rw [HXE.out]; simp; have := HN.out; omega
        exact Strs.ofOwn (xs := X) (v := .slice aa k c) (W := wr) (B := w1.heap.size) ⟨by first | exact h2.own | simpa using h2.own⟩
      have HR := Lib.hid hstr
      clear ho hk hstr
      go_wp2_with fail
      refine (sclone_any _ X _ HR.out (by have := HXL.out; omega)).mono ?_
      rintro e w2 ⟨v2, rfl, hown2, k2⟩
      have HR2 := Lib.hid (HR.out.kept k2 (fun _ _ h => h))
      have hs2 : Strs w2 v2 X := Strs.ofOwn (B := wr.heap.size) ⟨hown2⟩
      have K2 := Lib.hid (hkw.out.then k2)
      have hJ := pjoin_any v2 X w2 hs2 (by have := HXL.out; omega)
      have hRJ := fun W (hk : Kept (fun _ => False) w2 W) => rjoin_any (.slice aa k c) X W (HR2.out.kept hk (fun _ _ h => h)) (by have := HXL.out; omega) (fun y hy => by have := HXZ.out y hy; omega)
      have KK := Lib.hid (K1.out.then K2.out)
      clear hown2 k2 hs2
      by_cases hE : joinE X = 0
      · have hP : joinP X = pathS X := if_pos hE
        have hall : X.all nameS = true ∧ X.length ≤ 8 := by
          unfold joinE at hE
          split at hE
          · omega
          · split at hE
            · next h1 h2 => exact ⟨h2, by omega⟩
            · omega
        rw [hE, hP] at hJ
        rw [hE] at hRJ
        have hQO := fun W (hk : Kept (fun _ => False) w2 W) => qof_any (.slice aa k c) X W (HR2.out.kept hk (fun _ _ h => h)) (by omega) (fun y hy => by have := HXZ.out y hy; omega)
        have hNM := namesS_path hall.1 hall.2
        have hPN : ∀ W, Calls Tryd.prog 21 #[.string (pathS X)] W fun e w' => ∃ v, e = .returned v ∧ Strs w' v X ∧ Kept (fun _ => False) W w' := fun W => by
          refine (pnames_any (pathS X) (by have := path_size hNM; omega) W).mono ?_
          rintro e w' ⟨v, rfl, hr⟩
          have := hr.row
          rw [hNM] at this
          exact ⟨v, rfl, this, hr.kept⟩
        generalize pathS X = P at hJ hQO hPN
        have HJ : Hid (Calls Tryd.prog 25 #[v2] w2 fun e w' => e = .returned (.tuple #[.string P, .int .i64 0]) ∧ Kept (fun _ => False) w2 w') := hJ
        have HRJ : Hid (∀ W, Kept (fun _ => False) w2 W → Calls Tryd.prog 27 #[.slice aa k c] W fun e w' => e = .returned (.int .i64 0) ∧ Kept (fun _ => False) W w') := hRJ
        have HQO := Lib.hid hQO; have HPN := Lib.hid hPN
        clear hJ hRJ hQO hPN hE hP hall hNM
        go_wp2_with fail
        refine HJ.out.mono ?_
        rintro e w3 ⟨rfl, k3⟩
        have K3 := Lib.hid k3; clear k3
        go_wp2_with fail
        refine (HRJ.out _ K3.out).mono ?_
        rintro e w4 ⟨rfl, k4⟩
        have K4 := Lib.hid (K3.out.then k4); clear k4
        go_wp2_with fail
        refine (HQO.out _ K4.out).mono ?_
        rintro e w5 ⟨rfl, rfl⟩
        go_wp2_with fail
        refine (HPN.out _).mono ?_
        rintro e w6 ⟨v6, rfl, hs6, k6⟩
        have K6 := Lib.hid (K4.out.then k6); have S6 := Lib.hid hs6; clear k6 hs6
        go_wp2_with fail
        have heq := sequal_any v6 (.slice aa k c) X X w6 S6.out (HR2.out.kept K6.out (fun _ _ h => h))
        rw [show decide (X = X) = true by simp] at heq
        refine heq.mono ?_
        rintro e w7 ⟨rfl, q, rfl⟩
        have K7 := Lib.hid (K6.out.drewN q)
        clear heq
        go_wp2_with fail
        go_ret
        exact ⟨by first | rfl | simp, KK.out.then K7.out⟩
      · have hP : joinP X = ⟨#[]⟩ := if_neg hE
        have hE36 : joinE X = 3 ∨ joinE X = 6 := by
          unfold joinE at hE ⊢
          split
          · exact Or.inl rfl
          · next h1 =>
            rw [if_neg h1] at hE
            split
            · next h2 => rw [if_pos h2] at hE; exact absurd rfl hE
            · exact Or.inr rfl
        rw [hP] at hJ
        generalize joinE X = E at hJ hRJ hE36
        clear hE hP
        rcases hE36 with rfl | rfl
        · have HJ : Hid (Calls Tryd.prog 25 #[v2] w2 fun e w' => e = .returned (.tuple #[.string ⟨#[]⟩, .int .i64 3]) ∧ Kept (fun _ => False) w2 w') := hJ
          have HRJ : Hid (∀ W, Kept (fun _ => False) w2 W → Calls Tryd.prog 27 #[.slice aa k c] W fun e w' => e = .returned (.int .i64 3) ∧ Kept (fun _ => False) W w') := hRJ
          clear hJ hRJ
          go_wp2_with fail
          refine HJ.out.mono ?_
          rintro e w3 ⟨rfl, k3⟩
          have K3 := Lib.hid k3; clear k3
          go_wp2_with fail
          refine (HRJ.out _ K3.out).mono ?_
          rintro e w4 ⟨rfl, k4⟩
          have K4 := Lib.hid (K3.out.then k4); clear k4
          go_wp2_with fail
          go_ret
          exact ⟨rfl, KK.out.then K4.out⟩
        · have HJ : Hid (Calls Tryd.prog 25 #[v2] w2 fun e w' => e = .returned (.tuple #[.string ⟨#[]⟩, .int .i64 6]) ∧ Kept (fun _ => False) w2 w') := hJ
          have HRJ : Hid (∀ W, Kept (fun _ => False) w2 W → Calls Tryd.prog 27 #[.slice aa k c] W fun e w' => e = .returned (.int .i64 6) ∧ Kept (fun _ => False) W w') := hRJ
          clear hJ hRJ
          go_wp2_with fail
          refine HJ.out.mono ?_
          rintro e w3 ⟨rfl, k3⟩
          have K3 := Lib.hid k3; clear k3
          go_wp2_with fail
          refine (HRJ.out _ K3.out).mono ?_
          rintro e w4 ⟨rfl, k4⟩
          have K4 := Lib.hid (K3.out.then k4); clear k4
          go_wp2_with fail
          go_ret
          exact ⟨rfl, KK.out.then K4.out⟩
end Go.Proofs.YtbmkfacmbjnkaaaDoor
