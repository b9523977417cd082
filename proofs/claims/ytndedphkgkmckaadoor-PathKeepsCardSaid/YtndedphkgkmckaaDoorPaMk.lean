/-
  The reference's Make: a path for bytes.
-/
import Derived.Test.YtndedphkgkmckaaDoorPaLo
import Derived.Test.YtndedphkgkmckaaDoorPaQ
import Derived.Test.YtndedphkgkmckaaDoorPaC
namespace Go.Proofs.YtndedphkgkmckaaDoor
open Go.RowKit
set_option linter.unusedSimpArgs false
set_option linter.unusedVariables false

def nmL : List ByteArray := [⟨#[97]⟩, ⟨#[98]⟩, ⟨#[97, 98]⟩, ⟨#[97, 45, 98]⟩, ⟨#[99, 46, 100]⟩]
def nmS (b : Nat) : ByteArray := nmL.getD (b % 5) ⟨#[]⟩
/-- The names that bytes say. -/
def mkL (xs : List Nat) : List ByteArray := ((xs.drop 1).take (xs.getD 0 0 % 5)).map nmS
def makeS (xs : List Nat) : ByteArray := pathS (mkL xs)
theorem nmS_name (b : Nat) : nameS (nmS b) = true := by
  unfold nmS
  have h : ∀ k : Fin 5, nameS (nmL.getD k.val ⟨#[]⟩) = true := by decide +kernel
  exact h ⟨b % 5, Nat.mod_lt _ (by omega)⟩
theorem mkL_names (xs : List Nat) : (mkL xs).all nameS = true := by
  rw [List.all_eq_true]
  intro x hx
  unfold mkL at hx
  obtain ⟨b, _, rfl⟩ := List.mem_map.1 hx
  exact nmS_name b
theorem mkL_length (xs : List Nat) : (mkL xs).length = min (xs.getD 0 0 % 5) (xs.length - 1) := by unfold mkL; simp
theorem mkL_le (xs : List Nat) : (mkL xs).length ≤ 4 := by rw [mkL_length]; have := Nat.mod_lt (xs.getD 0 0) (show 0 < 5 by omega); omega
theorem makeS_names (xs : List Nat) : namesS (makeS xs) = some (mkL xs) := namesS_path (mkL_names xs) (by have := mkL_le xs; omega)
theorem makeS_path (xs : List Nat) : IsPath (makeS xs) := by unfold IsPath; rw [makeS_names]; rfl

theorem take_map_next (xs : List Nat) (k : Nat) (hk : k + 1 < xs.length) : (((xs.drop 1).take (k + 1)).map nmS) = (((xs.drop 1).take k).map nmS) ++ [nmS (xs.getD (k + 1) 0)] := by
  have h1 : k < (xs.drop 1).length := by rw [List.length_drop]; omega
  rw [List.take_add_one, List.map_append, List.getElem?_eq_getElem h1]
  simp [List.getD, hk, Nat.add_comm]

set_option maxRecDepth 100000 in
set_option maxHeartbeats 3200000 in
theorem make_any (v : Value) (xs : List Nat) (B : Nat) (w : World) (h : Loose w v xs B) (hx : ∀ x ∈ xs, x < 256) (hl : xs.length ≤ maxLen) :
    Calls Tryd.prog 25 #[v] w fun e w' => e = .returned (.string (makeS xs)) ∧ Kept (fun _ => False) w w' := by
  obtain ⟨a, c, rfl⟩ := h.form
  have HL := Lib.hid h
  have HX := Lib.hid hx
  have HM := Lib.hid (mkL_length xs)
  have HML := Lib.hid (mkL_le xs)
  have HNM := Lib.hid (mkL_names xs)
  unfold maxLen at hl
  obtain ⟨V, hV⟩ : ∃ V, V = makeS xs := ⟨_, rfl⟩
  rw [← hV]
  have HV := Lib.hid hV
  obtain ⟨n, hn⟩ : ∃ n, n = xs.length := ⟨_, rfl⟩
  rw [← hn] at HL hl ⊢
  have HN := Lib.hid hn
  have hnb : n ≤ 9223372036854775807 := by omega
  obtain ⟨r0, hr0⟩ : ∃ r, r = xs.getD 0 0 % 5 := ⟨_, rfl⟩
  have hr5 : r0 < 5 := by rw [hr0]; exact Nat.mod_lt _ (by omega)
  have HR0 := Lib.hid hr0
  clear h hx hV hn hl hr0
  go_enter Tryd.func25, Tryd.ntmps25
  go_wp2_with fail
  go_loopw [3, 4] (fun lv iv wr => ∃ (k : Nat) (aa : Option Addr) (cc : Nat), k ≤ r0 ∧ (k = 0 ∨ k < n) ∧ iv = .int .i64 (k + 1 : Nat) ∧ lv = .slice aa k cc ∧ Hid (OwnS wr w.heap.size (.slice aa k cc) (((xs.drop 1).take k).map nmS)) ∧ Hid (Kept (fun _ => False) w wr)) (fun _ iv _ => n + 1 - (intOf iv).toNat)
  case atStart => exact ⟨0, none, 0, by omega, Or.inl rfl, rfl, rfl, OwnS.nil _ _, Kept.refl _ _⟩
  case round =>
    obtain ⟨k, aa, cc, hkr, hkn, rfl, rfl, ho, hkw⟩ := hrel
    by_cases hlt : k + 1 < n
    · have l1 : ((k + 1 : Nat) : Int) < (n : Int) := by omega
      obtain ⟨g, off, rfl, hc0⟩ := (HL.out.kept hkw.out (fun _ _ h => h)).at (k := 0) (by have := HN.out; omega)
      obtain ⟨g', off', e, hc1⟩ := (HL.out.kept hkw.out (fun _ _ h => h)).at (k := k + 1) (by have := HN.out; omega)
      obtain ⟨rfl, rfl⟩ : g = g' ∧ off = off' := by cases e; exact ⟨rfl, rfl⟩
      have hb0 : xs.getD 0 0 < 256 := HX.out _ (by rw [List.getD_eq_getElem?_getD, List.getElem?_eq_getElem (by have := HN.out; omega)]; exact List.getElem_mem _)
      have hb1 : xs.getD (k + 1) 0 < 256 := HX.out _ (by rw [List.getD_eq_getElem?_getD, List.getElem?_eq_getElem (by have := HN.out; omega)]; exact List.getElem_mem _)
      have hnext := take_map_next xs k (by have := HN.out; omega)
      have hnm : nmS (xs.getD (k + 1) 0) = nmL.getD (xs.getD (k + 1) 0 % 5) ⟨#[]⟩ := rfl
      have hr0 := HR0.out
      obtain ⟨b0, hb0e⟩ : ∃ b, b = xs.getD 0 0 := ⟨_, rfl⟩
      obtain ⟨b1, hb1e⟩ : ∃ b, b = xs.getD (k + 1) 0 := ⟨_, rfl⟩
      rw [← hb0e] at hc0 hb0 hr0
      rw [← hb1e] at hc1 hb1 hnext hnm
      have HNX := Lib.hid hnext
      rw [Nat.add_zero] at hc0
      have q0 : (b0 : Int) % 5 = (r0 : Int) := by omega
      have q0t : (b0 : Int).tmod 5 = (r0 : Int) := by rw [Int.tmod_eq_emod_of_nonneg (by omega)]; exact q0
      clear e hb0e hb1e hr0 hnext
      by_cases hle : k + 1 ≤ r0
      · have l2 : ((k + 1 : Nat) : Int) ≤ (r0 : Int) := by omega
        have hkk : IntKind.i64.wrap (r0 : Int) = (r0 : Int) := IntWalk.i64_in _ (by omega)
        have hgl : g < wr.heap.size := World.block_lt_of_cell? wr _ hc0
        have hgn : ¬ g = wr.heap.size := by omega
        have hal : (((xs.drop 1).take k).map nmS).length = k := by
          have := HN.out
          simp
          omega
        generalize hbk : ((xs.drop 1).take k).map nmS = acc at ho HNX hal
        have HBK := Lib.hid hbk
        have HAL := Lib.hid hal
        have HSZ := Lib.hid hkw.out.size
        clear hbk hal
        obtain ⟨q, hq, hq5⟩ : ∃ q, q = b1 % 5 ∧ q < 5 := ⟨_, rfl, Nat.mod_lt _ (by omega)⟩
        rw [← hq] at hnm
        have q1 : (b1 : Int) % 5 = (q : Int) := by omega
        have q1t : (b1 : Int).tmod 5 = (q : Int) := by rw [Int.tmod_eq_emod_of_nonneg (by omega)]; exact q1
        obtain ⟨x, hx⟩ : ∃ x, x = nmS b1 := ⟨_, rfl⟩
        rw [← hx] at HNX hnm
        have HQ := Lib.hid hq
        have HXX := Lib.hid hx
        clear hq hx
        have h5 : q = 0 ∨ q = 1 ∨ q = 2 ∨ q = 3 ∨ q = 4 := by omega
        rcases h5 with rfl | rfl | rfl | rfl | rfl
        all_goals
          have hxl := hnm
          unfold nmL at hxl
          simp at hxl
          have HXL := Lib.hid hxl
          clear hnm hxl
          go_wp2_with (at_builtin; refine wpList_pushS (by rfl) _ _ rfl rfl w.heap.size _ acc (wr.heap.size + 1) x rfl (by first | rfl | (go_simp; done)) ((ho.out.alloc _).alloc _) (by rw [HXL.out]; go_simp) (by have := HAL.out; omega) (by have := HSZ.out; simp; omega) ?_)
          intro a' c' w4 hown hk4
          have hrow : OwnS w4 w.heap.size (.slice a' (k + 1) c') (((xs.drop 1).take (k + 1)).map nmS) := by
            have h2 := hown
            rw [HAL.out, ← HNX.out] at h2
            exact h2
          have HR4 := Lib.hid hrow
          have HK4 : Hid (Kept (fun _ => False) w w4) := ((hkw.out.then (Kept.alloc _ _ _)).then (Kept.alloc _ _ _)).trans hk4 (fun _ _ h => h) (fun i hi e => by have := (ho.out.bound i e).1; omega)
          have hl := HAL.out
          clear hown hk4 hrow
          go_wp2_with fail
          go_roundw
          case rel => first | exact ⟨k + 1, a', c', hle, Or.inr hlt, by go_num, by rw [hl], HR4, HK4⟩ | ((repeat apply Exists.intro); exact ⟨⟨k + 1, a', c', hle, Or.inr hlt, by go_num, by rw [hl], HR4, HK4⟩, rfl⟩)
          case measure => simp [intOf]; omega
      · have l2 : ¬ ((k + 1 : Nat) : Int) ≤ (r0 : Int) := by omega
        have hkk : IntKind.i64.wrap (r0 : Int) = (r0 : Int) := IntWalk.i64_in _ (by omega)
        have hend : ((xs.drop 1).take k).map nmS = mkL xs := by
          unfold mkL
          rw [← HR0.out, show k = r0 by omega]
        have hstr : Strs wr (.slice aa k cc) (mkL xs) := by
          have := Strs.ofOwn (xs := mkL xs) (v := .slice aa k cc) (W := wr) (B := w.heap.size) (by have h2 := ho.out; rw [hend] at h2; exact ⟨by have h3 := h2.own; first | exact h3 | simpa using h3⟩)
          exact this
        have hqo := qof_any (.slice aa k cc) (mkL xs) wr hstr (by have := HML.out; omega) (fun y hy => by have := nameL_len (List.all_eq_true.1 HNM.out y hy); have e : y.size = y.data.toList.length := rfl; omega)
        obtain rfl : V = pathS (mkL xs) := HV.out
        have HQ := Lib.hid hqo
        clear hqo hstr hend ho
        go_wp2_with fail
        refine HQ.out.mono ?_
        rintro e w2 ⟨rfl, rfl⟩
        go_wp2_with fail
        go_ret
        exact ⟨rfl, hkw.out⟩
    · have l1 : ¬ ((k + 1 : Nat) : Int) < (n : Int) := by omega
      have hend : ((xs.drop 1).take k).map nmS = mkL xs := by
        unfold mkL
        rw [← HR0.out, List.take_of_length_le (by rw [List.length_drop, ← HN.out]; omega), List.take_of_length_le (by rw [List.length_drop, ← HN.out]; omega)]
      have hstr : Strs wr (.slice aa k cc) (mkL xs) := by
        have := Strs.ofOwn (xs := mkL xs) (v := .slice aa k cc) (W := wr) (B := w.heap.size) (by have h2 := ho.out; rw [hend] at h2; exact ⟨by have h3 := h2.own; first | exact h3 | simpa using h3⟩)
        exact this
      have hqo := qof_any (.slice aa k cc) (mkL xs) wr hstr (by have := HML.out; omega) (fun y hy => by have := nameL_len (List.all_eq_true.1 HNM.out y hy); have e : y.size = y.data.toList.length := rfl; omega)
      obtain rfl : V = pathS (mkL xs) := HV.out
      have HQ := Lib.hid hqo
      clear hqo hstr hend ho
      go_wp2_with fail
      refine HQ.out.mono ?_
      rintro e w2 ⟨rfl, rfl⟩
      go_wp2_with fail
      go_ret
      exact ⟨rfl, hkw.out⟩
end Go.Proofs.YtndedphkgkmckaaDoor
