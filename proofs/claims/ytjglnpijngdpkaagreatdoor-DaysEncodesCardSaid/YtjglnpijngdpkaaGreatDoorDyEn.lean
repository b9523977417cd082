import Derived.Test.YtjglnpijngdpkaaGreatDoorDyEm
import Derived.Test.YtjglnpijngdpkaaGreatDoorDyTl
import Derived.Test.YtjglnpijngdpkaaGreatDoorDyEq
import Derived.Deep.RegionHeld3
/-
  arbaclaw05.DaysEncodes returns true.
-/
namespace Go.Proofs.YtjglnpijngdpkaaGreatDoor
open Go.RowKit Go.Shelf
set_option linter.unusedSimpArgs false
set_option linter.unusedVariables false
set_option maxRecDepth 100000

/-- What the first loop holds: the writer, the row it goes over, apart from the writer's own. -/
structure EnI (wA w7 wr : World) (wb b6 : Nat) (v : Value) (xs : List Nat) (row : Value) (L : List (Int × Int)) : Prop where
  wk : WKD wA wr wb v xs
  row : RowG ESp wr row L
  ap : ∀ k, v.ownBlock = some k → k < b6 ∨ w7.heap.size ≤ k
  size : w7.heap.size ≤ wr.heap.size
theorem EnI.on {wA w7 a b : World} {wb b6 : Nat} {v : Value} {xs : List Nat} {row : Value} {L : List (Int × Int)} (h : EnI wA w7 a wb b6 v xs row L) (hk : Kept (fun _ => False) a b) : EnI wA w7 b wb b6 v xs row L :=
  ⟨h.wk.on hk, h.row.on hk, h.ap, Nat.le_trans h.size hk.size⟩
theorem EnI.step {wA w7 a b : World} {wb b6 : Nat} {v v' : Value} {xs ys : List Nat} {row : Value} {L : List (Int × Int)} (h : EnI wA w7 a wb b6 v xs row L) (hw : Wr b wb v' wb ys) (hs : WStep a b wb v v') (hb : wb < b6) (hr : ∀ k, row.ownBlock = some k → b6 ≤ k ∧ k < w7.heap.size) : EnI wA w7 b wb b6 v' ys row L := by
  refine ⟨h.wk.step hw hs, h.row.kept hs.kept (fun k hk e => ?_), fun k hk => ?_, Nat.le_trans h.size hs.kept.size⟩
  · have h1 := hr k hk
    rcases e with e | e
    · omega
    · rcases h.ap k e with h2 | h2 <;> omega
  · rcases hs.row with h1 | h1
    · exact h.ap k (by rw [← h1]; exact hk)
    · exact Or.inr (Nat.le_trans h.size (h1 k hk))

/-- What the second loop holds: the reader. -/
structure EnR (wC wr : World) (rb : Nat) (rv : Value) (xs : List Nat) : Prop where
  rd : Rd wr rb rv xs 0
  kept : Kept (fun k => k = rb) wC wr
theorem EnR.move {S : Nat → Prop} {wC a b : World} {rb : Nat} {rv : Value} {xs : List Nat} (h : EnR wC a rb rv xs) (hk : Kept S a b) (h1 : ¬ S rb) (h2 : ∀ k, rv.ownBlock = some k → ¬ S k) (h3 : ∀ i, i < wC.heap.size → ¬ S i) : EnR wC b rb rv xs :=
  ⟨h.rd.kept hk h1 h2, h.kept.trans hk (fun _ _ h => h) (fun i hi e => absurd e (h3 i hi))⟩
theorem EnR.on {wC a b : World} {rb : Nat} {rv : Value} {xs : List Nat} (h : EnR wC a rb rv xs) (hk : Kept (fun _ => False) a b) : EnR wC b rb rv xs := h.move hk (fun h => h) (fun _ _ h => h) (fun _ _ h => h)
theorem EnR.step {wC a b : World} {rb : Nat} {rv rv' : Value} {xs ys : List Nat} (h : EnR wC a rb rv xs) (hr : Rd b rb rv' ys 0) (hk : Kept (fun k => k = rb) a b) : EnR wC b rb rv' ys :=
  ⟨hr, h.kept.trans hk (fun _ _ h => h) (fun _ _ h => h)⟩

set_option maxHeartbeats 3200000 in
theorem encodesL_any (w0 : World) (v : Value) (l : List (Nat × Nat)) (h : RowG EU w0 v l) (hl : ∀ p ∈ l, p.1 < 65536 ∧ p.2 < 65536) (hT : LibD w0) (hK : KTab w0) :
    Calls Tryz.prog 5 #[v] w0 fun e w' => e = .returned (.bool true) ∧ Kept (fun _ => False) w0 w' := by
  obtain ⟨la, lc, rfl, _, _⟩ := h.form
  have HV := Lib.hid h; have HB := Lib.hid hl; have HT := Lib.hid hT; have HKT := Lib.hid hK
  obtain ⟨N0, hN0⟩ : ∃ N, N = l.length := ⟨_, rfl⟩
  rw [← hN0] at HV ⊢
  clear h hl hT hN0 hK
  go_enter Tryz.func5, Tryz.ntmps5
  go_wp2_with fail
  refine (awD_any w0 (libD_tabD HT.out)).mono ?_
  rintro e w1 ⟨rfl, k1⟩
  have HK1 := Lib.hid k1
  clear k1
  go_wp2_with fail
  refine (makeD_any w1 _ l (HV.out.on HK1.out) HB.out).mono ?_
  rintro e w2 ⟨sv, fv, t, f, rfl, hs, hf, hfl, hin, hfv, k2⟩
  obtain ⟨row, rfl, hrow, hcan⟩ := hs
  obtain ⟨ra, rc, rfl, _, _⟩ := hrow.form
  obtain ⟨fa, fc, rfl, _, _⟩ := hf.form
  have HK2 := Lib.hid (HK1.out.then k2)
  have HS : Hid (SetD w2 (.agg #[.slice ra t.length rc]) t) := Lib.hid ⟨_, rfl, hrow, hcan⟩
  have HA := Lib.hid (Kept.alloc (fun _ => False) w2 (.cells #[.slice ra t.length rc] 26))
  have HC : Hid (∀ W, Kept (fun _ => False) (w2.alloc (.cells #[.slice ra t.length rc] 26)) W → W.cell? ⟨w2.heap.size, 0, none⟩ = some (.slice ra t.length rc)) := Lib.hid fun W k => (k.cell (p := ⟨w2.heap.size, 0, none⟩) (by simp) (fun h => h)).trans (new1P _ _ _)
  -- plain facts
  obtain ⟨L, hL⟩ : ∃ L, L = spansD t := ⟨_, rfl⟩
  have hL6 : L.length ≤ 6 := by rw [hL]; exact Nat.le_trans (spans_le hcan hin) (fitD_len l)
  have HOK : Hid (∀ p ∈ L, okSp p) := Lib.hid (by rw [hL]; exact spansD_ok hcan)
  have HUN : Hid (∀ u, CanD u → (∀ d, inD u d = spanIn L d) → u = t) := Lib.hid fun u hu hv => canD_unique hu hcan fun d _ _ => by rw [hv, hL, spanIn_spansD hcan]
  obtain ⟨TT, hTT⟩ : ∃ TT, TT = strD (textD t) := ⟨_, rfl⟩
  have hT100 : TT.size ≤ 100 := by
    rw [hTT, strD_size]
    by_cases h1 : t = []
    · subst h1; decide
    · by_cases h2 : t = [0, 30001]
      · subst h2; decide
      · rw [textD_head hcan h1 h2]
        have := txD_len (spansD t) (spansD_ok hcan)
        rw [← hL] at this ⊢
        omega
  have HTX : Hid (∀ W (a : Option Addr) (c : Nat), Kept (fun _ => False) w0 W → SetD W (.agg #[.slice a t.length c]) t → Calls Tryz.prog 8 #[.agg #[.slice a t.length c]] W fun e w' => e = .returned (.string TT) ∧ Kept (fun _ => False) W w') := Lib.hid fun W a c hk hs => by
    rw [hTT]
    exact textP_any W _ t hs ((HT.out.kept hk).tab)
  have HPA : Hid (∀ W, Kept (fun _ => False) w0 W → Calls Tryz.prog 10 #[.string TT] W fun e w' => ∃ (a : Option Addr) (c : Nat), e = .returned (.tuple #[.agg #[.slice a t.length c], .int .i64 0]) ∧ SetD w' (.agg #[.slice a t.length c]) t ∧ NewV W (.agg #[.slice a t.length c]) ∧ Kept (fun _ => False) W w') := Lib.hid fun W hk => by
    have hz := textD_size hcan
    refine (pparseD_own W TT (by omega) (by rw [hTT]; exact hz.2) (HT.out.kept hk)).mono ?_
    rintro e w' ⟨v, E, he, hk2, hc⟩
    have hl : TT.data.toList = textD t := by rw [hTT]; rfl
    rw [hl] at hc
    rcases hc with ⟨rfl, t', hs', ht', hnw⟩ | ⟨_, _, hno⟩
    · obtain rfl := textD_inj hs'.can hcan ht'
      obtain ⟨row, rfl, h4, h5⟩ := hs'
      obtain ⟨a, c, rfl, _, _⟩ := h4.form
      exact ⟨a, c, he, ⟨_, rfl, h4, h5⟩, hnw, hk2⟩
    · exact absurd rfl (hno t hcan)
  have HEQ : Hid (∀ W v u, SetD W v t → SetD W u t → Calls Tryz.prog 11 #[v, u] W fun e w' => e = .returned (.bool true) ∧ Kept (fun _ => False) W w') := Lib.hid fun W v u h1 h2 => by
    have := dayEqual_any v u t t W h1 h2
    rwa [decide_eq_true rfl] at this
  have HSP : Hid (∀ W (a : Option Addr) (c : Nat), SetD W (.agg #[.slice a t.length c]) t → Calls Tryz.prog 18 #[.agg #[.slice a t.length c]] W fun e w' => ∃ (b : Option Addr) (d : Nat), e = .returned (.slice b L.length d) ∧ OwnG ESp 49 W.heap.size w' (.slice b L.length d) L ∧ Kept (fun _ => False) W w') := Lib.hid fun W a c hs => by
    refine (spansP_any W _ t hs).mono ?_
    rintro e w' ⟨u, he, ho, hk⟩
    rw [← hL] at ho
    obtain ⟨b, d, rfl, _, _⟩ := ho.form
    exact ⟨b, d, he, ho, hk⟩
  have HOF : Hid (∀ W v, RowG ESp W v L → Calls Tryz.prog 24 #[v] W fun e w' => ∃ (a : Option Addr) (c : Nat), e = .returned (.tuple #[.agg #[.slice a t.length c], .int .i64 0]) ∧ SetD w' (.agg #[.slice a t.length c]) t ∧ Kept (fun _ => False) W w') := Lib.hid fun W v hr => by
    have h0 : errD L = 0 := errD_zero HOK.out
    refine (ofD_any W v L hr (by omega)).mono ?_
    rintro e w' ⟨sv, he, hk, hc⟩
    rw [h0] at he hc
    rcases hc with ⟨_, u, h2, h3⟩ | ⟨h4, _⟩
    · obtain rfl := HUN.out u h2.can h3
      obtain ⟨row, rfl, h5, h6⟩ := h2
      obtain ⟨a, c, rfl, _, _⟩ := h5.form
      exact ⟨a, c, he, ⟨_, rfl, h5, h6⟩, hk⟩
    · exact absurd rfl h4
  obtain ⟨n, hn⟩ : ∃ n, n = t.length := ⟨_, rfl⟩
  obtain ⟨m, hm⟩ : ∃ m, m = f.length := ⟨_, rfl⟩
  obtain ⟨N, hN⟩ : ∃ N, N = L.length := ⟨_, rfl⟩
  rw [← hn] at HS HA HC HTX HPA HSP HOF ⊢
  rw [← hm]
  rw [← hN] at HSP hL6
  have HN := Lib.hid hN
  clear hrow hcan hf hfl hin hfv k2 hn hm HV HB hTT hL hN HUN
  go_wp2_with fail
  have hP3 : w2.heap.size < (w2.alloc (.cells #[.slice ra n rc] 26)).heap.size := by simp
  obtain ⟨wA, hwA⟩ : ∃ wA, wA = w2.alloc (.cells #[.slice ra n rc] 26) := ⟨_, rfl⟩
  rw [← hwA] at HA HC hP3 ⊢
  have HSA := Lib.hid (HS.out.on HA.out)
  have HKA := Lib.hid (HK2.out.then HA.out)
  clear hwA HS HA HK2 HK1
  obtain ⟨P3, hP3'⟩ : ∃ P3, P3 = w2.heap.size := ⟨_, rfl⟩
  rw [← hP3'] at HC hP3 ⊢
  have HP3 := Lib.hid hP3
  clear hP3' hP3
  refine (newWriter_any _).mono ?_
  rintro e w3 ⟨rfl, hw3⟩
  obtain ⟨wb, hwb⟩ : ∃ wb, wb = wA.heap.size := ⟨_, rfl⟩
  have HW3 : Hid (WKD wA w3 wb (.slice none 0 0) []) := Lib.hid (by
    rw [hw3, hwb]
    exact ⟨wr_new _ _ (Nat.le_refl _), Kept.alloc _ _ _, Nat.le_refl _⟩)
  rw [← hwb]
  have HWB := Lib.hid hwb
  clear hw3 hwb
  have c3 := HC.out _ HW3.out.kept
  go_wp2_with fail
  refine (HTX.out _ _ _ (HKA.out.then HW3.out.kept) (HSA.out.on HW3.out.kept)).mono ?_
  rintro e w4 ⟨rfl, k4⟩
  have HW4 := Lib.hid (HW3.out.on k4)
  clear k4 HW3 c3
  go_wp2_with fail
  refine (string_any TT w4 wb _ wb _ HW4.out.wri (by simp) (by omega) (by have := HW4.out.wri.lt; omega)).mono ?_
  rintro e w5 ⟨rfl, v5, hw5, hs5⟩
  rw [List.nil_append] at hw5
  have HW5 := Lib.hid (HW4.out.step hw5 hs5)
  have l0 : (enc TT.size ++ strB TT).length ≤ 110 := by
    have := enc_len (v := TT.size) (by omega)
    have := strB_length TT
    rw [List.length_append]; omega
  have hby0 : ∀ b ∈ enc TT.size ++ strB TT, b < 256 := fun b hb => (List.mem_append.1 hb).elim (enc_byte _ b) (strB_byte TT b)
  obtain ⟨X0, hX0⟩ : ∃ X, X = enc TT.size ++ strB TT := ⟨_, rfl⟩
  have HX0 : Hid (X0 = enc (strB TT).length ++ strB TT) := Lib.hid (by rw [hX0, strB_length])
  rw [← hX0] at HW5 l0 hby0
  have HBY0 := Lib.hid hby0
  clear hw5 hs5 HW4 hby0 hX0
  have c5 := HC.out _ HW5.out.kept
  go_wp2_with fail
  refine (HSP.out _ _ _ (HSA.out.on HW5.out.kept)).mono ?_
  rintro e w6 ⟨b6a, b6c, rfl, _, k6⟩
  have HW6 := Lib.hid (HW5.out.on k6)
  have hwN : IntKind.u64.wrap (N : Int) = (N : Int) := IntWalk.u64_in _ (by omega)
  clear k6 HW5 c5
  go_wp2_with fail
  clear hwN
  refine (uint_any N w6 wb _ wb _ HW6.out.wri (by omega) (Lib.hid (by omega))).mono ?_
  rintro e w7 ⟨rfl, v7, hw7, hs7⟩
  have HW7 := Lib.hid (HW6.out.step hw7 hs7)
  have l1 : (X0 ++ enc N).length ≤ 120 := by
    have := enc_len (v := N) (by omega)
    rw [List.length_append]; omega
  clear hw7 hs7 HW6
  have c7 := HC.out _ HW7.out.kept
  go_wp2_with fail
  refine (HSP.out _ _ _ (HSA.out.on HW7.out.kept)).mono ?_
  rintro e w8 ⟨ba, bc, rfl, ho8, k8⟩
  obtain ⟨X1, hX1⟩ : ∃ X, X = X0 ++ enc N := ⟨_, rfl⟩
  rw [← hX1] at HW7 l1
  have HX1 := Lib.hid hX1
  obtain ⟨b6, hb6⟩ : ∃ b6, b6 = w7.heap.size := ⟨_, rfl⟩
  rw [← hb6] at ho8
  have HROW : Hid (∀ k, (Value.slice ba N bc).ownBlock = some k → b6 ≤ k ∧ k < w8.heap.size) := Lib.hid fun k hk => ho8.lt k hk
  have hwb6 : wb < b6 := by rw [hb6]; exact HW7.out.wri.lt
  have HI8 : Hid (EnI wA w8 w8 wb b6 v7 (X1 ++ spansB (L.take 0)) (.slice ba N bc) L) := Lib.hid ⟨by rw [List.take_zero]; show WKD _ _ _ _ (X1 ++ []); rw [List.append_nil]; exact HW7.out.on k8, ho8.row, fun k hk => Or.inl (by rw [hb6]; exact (HW7.out.wri.own.lt k hk).2), Nat.le_refl _⟩
  clear ho8 k8 HW7 c7 hX1 hb6
  go_wp2_with fail
  go_loopw [41] (fun iv wr => ∃ (k : Nat) (vv : Value), k ≤ N ∧ iv = .int .i64 (k : Int) ∧ Hid (EnI wA w8 wr wb b6 vv (X1 ++ spansB (L.take k)) (.slice ba N bc) L)) (fun iv _ => N - (intOf iv).toNat)
  case atStart => exact ⟨0, v7, Nat.zero_le _, rfl, HI8⟩
  case round =>
    obtain ⟨k, vv, hk, rfl, hI⟩ := hrel
    by_cases hlt : k < N
    · have i1 : (k : Int) < (N : Int) := by omega
      have i0 : (0 : Int) ≤ (k : Int) := by omega
      have hkl : k < L.length := by rw [← HN.out]; exact hlt
      obtain ⟨g, off, rfl, hg, hc⟩ := hI.out.row.at (k := k) hkl
      obtain ⟨d0, d1⟩ := atESp hc
      rw [show ESp.z = 2 from rfl] at d0 d1
      have hmem : L.getD k ESp.d ∈ L := by
        rw [List.getD_eq_getElem?_getD, List.getElem?_eq_getElem hkl]; exact List.getElem_mem _
      have hok := HOK.out _ hmem
      have hst : spansB (L.take (k + 1)) = spansB (L.take k) ++ (enc (L.getD k ESp.d).1.toNat ++ enc (L.getD k ESp.d).2.toNat) := by
        have ht : L.take (k + 1) = L.take k ++ [L.getD k ESp.d] := by
          rw [List.take_add_one, List.getD_eq_getElem?_getD, List.getElem?_eq_getElem hkl]; rfl
        rw [ht, spansB_snoc]
      have hlen : (spansB (L.take k)).length ≤ 120 := by
        have h1 := spansB_len (L.take k) fun p hp => HOK.out p (List.mem_of_mem_take hp)
        rw [List.length_take] at h1; omega
      generalize L.getD k ESp.d = pq at *
      obtain ⟨px, py⟩ := pq
      obtain ⟨o1, o2, o3⟩ := hok
      simp only at o1 o2 o3 d0 d1 hst
      obtain ⟨x, rfl⟩ := Int.eq_ofNat_of_zero_le o1
      obtain ⟨y, rfl⟩ := Int.eq_ofNat_of_zero_le (show 0 ≤ py by omega)
      have hx1 : ((x : Int)).toNat = x := by omega
      have hy1 : ((y : Int)).toNat = y := by omega
      rw [hx1, hy1] at hst
      have HST := Lib.hid hst
      have hxs : x < 18446744073709551616 := by omega
      have hys : y < 18446744073709551616 := by omega
      have HI2 := Lib.hid (hI.out.on (Kept.alloc (fun _ => False) wr (.cells #[.int .i64 (x : Int), .int .i64 (y : Int)] 49)))
      have hwbr : wb < wr.heap.size := hI.out.wk.wri.lt
      have HVR : Hid (∀ j, vv.ownBlock = some j → j < wr.heap.size) := Lib.hid fun j hj => (hI.out.wk.wri.own.lt j hj).2
      have HWX : Hid (IntKind.u64.wrap (x : Int) = (x : Int) ∧ IntKind.u64.wrap (y : Int) = (y : Int)) := Lib.hid ⟨IntWalk.u64_in _ (by omega), IntWalk.u64_in _ (by omega)⟩
      have hl9 : (X1 ++ spansB (L.take k)).length ≤ 300 := by rw [List.length_append]; omega
      have hl10 : ((X1 ++ spansB (L.take k)) ++ enc x).length ≤ 400 := by
        have h1 := enc_len hxs
        rw [List.length_append]; omega
      clear hst hc hg hmem hkl hI hx1 hy1 o1 o2 o3
      have wx := HWX.out.1
      go_wp2_with fail
      clear wx
      refine (uint_any x _ wb _ wb _ HI2.out.wk.wri (by omega) (Lib.hid hxs)).mono ?_
      rintro e q1 ⟨rfl, u1, hu1, hs1⟩
      have HJ1 := Lib.hid (HI2.out.step hu1 hs1 hwb6 HROW.out)
      have e1 : q1.cell? ⟨wr.heap.size, 1, none⟩ = some (.int .i64 (y : Int)) := (hs1.kept.cell (p := ⟨wr.heap.size, 1, none⟩) (by simp) (fun e => by
        rcases e with e | e
        · have e' : wr.heap.size = wb := e
          omega
        · exact absurd (HVR.out _ e) (Nat.lt_irrefl _))).trans (new2D _ _ _ _).2
      clear hu1 hs1 HI2
      have wy := HWX.out.2
      go_wp2_with fail
      clear wy
      refine (uint_any y _ wb _ wb _ HJ1.out.wk.wri (by omega) (Lib.hid hys)).mono ?_
      rintro e q2 ⟨rfl, u2, hu2, hs2⟩
      have HJ2 : Hid (EnI wA w8 q2 wb b6 u2 (X1 ++ spansB (L.take (k + 1))) (.slice (some ⟨g, off, none⟩) N bc) L) := Lib.hid (by
        have h5 := HJ1.out.step hu2 hs2 hwb6 HROW.out
        rw [HST.out]
        simpa only [List.append_assoc] using h5)
      clear hu2 hs2 HJ1 e1
      go_wp2_with fail
      go_roundw
      case rel => exact ⟨k + 1, u2, by omega, by go_num, HJ2⟩
      case measure => simp [intOf]; omega
    · obtain rfl : N = k := by omega
      have hfull : L.take N = L := List.take_of_length_le (by rw [← HN.out]; exact Nat.le_refl _)
      rw [hfull] at hI
      have hxl : (X1 ++ spansB L).length ≤ 300 := by
        have h1 := spansB_len L HOK.out
        rw [← HN.out] at h1
        rw [List.length_append]; omega
      have hxe : X1 ++ spansB L = (enc (strB TT).length ++ strB TT) ++ (enc N ++ spansB L) := by
        rw [HX1.out, HX0.out]; simp only [List.append_assoc]
      have hxb : ∀ b ∈ (enc (strB TT).length ++ strB TT) ++ (enc N ++ spansB L), b < 256 := fun b hb => by
        rcases List.mem_append.1 hb with h1 | h1
        · exact HBY0.out b (by rw [HX0.out]; exact h1)
        · exact (List.mem_append.1 h1).elim (enc_byte _ b) (spansB_byte L b)
      obtain ⟨X2, hX2⟩ : ∃ X, X = X1 ++ spansB L := ⟨_, rfl⟩
      rw [← hX2] at hI hxl hxe
      have HW9 := Lib.hid hI.out.wk
      have HXE := Lib.hid hxe; have HXB := Lib.hid hxb
      clear hI hfull HI8 hxe hxb hX2 HX1 HX0 HBY0 HROW l0 l1 hlt hk
      go_wp2_with fail
      refine (out_any wr wb vv X2 HW9.out.wri.reads (by omega) HW9.out.wri.cell).mono ?_
      rintro e w10 ⟨p10, rfl, hf10, hk10⟩
      have KA10 := Lib.hid (HW9.out.kept.then hk10)
      have HF10 := Lib.hid hf10.reads
      clear hf10 hk10 HW9
      go_wp2_with fail
      refine (newReader_any w10 p10 X2 HF10.out (by omega)).mono ?_
      rintro e w11 ⟨rb, rv, rfl, hrd, hrb, hrv, hk11⟩
      have KA11 := Lib.hid (KA10.out.then hk11)
      have hrbA : wA.heap.size ≤ rb := Nat.le_trans KA10.out.size hrb
      rw [HXE.out] at hrd
      have HRD := Lib.hid hrd
      have P6 := pieceS_enc (strB TT) (enc N ++ spansB L) 100 (by rw [strB_length]; omega) (by rw [strB_length]; omega)
      have C6 := rstring_any w11 rb rv _ 0 100 hrd HXB.out (Lib.hid (by omega))
      rw [P6, strOf_strBD] at C6
      have HC6 := Lib.hid C6
      have HBN : Hid (∀ b ∈ enc N ++ spansB L, b < 256) := Lib.hid fun b hb => HXB.out b (List.mem_append_right _ hb)
      have HRBA := Lib.hid hrbA
      clear hrd hrb hrv hk11 P6 C6 HF10 KA10 HXE HXB hrbA
      go_wp2_with fail
      refine HC6.out.mono ?_
      rintro e w12 ⟨rfl, rv2, hrd2, _, hk12⟩
      have KA12 : Hid (Kept (fun _ => False) wA w12) := Lib.hid (KA11.out.trans hk12 (fun _ _ h => h) (fun i hi e => by have := HRBA.out; omega))
      have HRD2 := Lib.hid hrd2
      clear hrd2 hk12 HC6 KA11 HRD
      go_wp2_with fail
      refine (HPA.out _ (HKA.out.then KA12.out)).mono ?_
      rintro e w13 ⟨a1, c1, rfl, hs13, hn13, k13⟩
      have HKC := Lib.hid (k13.then (Kept.alloc (fun _ => False) w13 (.cells #[.slice a1 n c1] 26)))
      have hrb12 : rb < w12.heap.size := HRD2.out.lt
      have HRVB : Hid (∀ k, rv2.ownBlock = some k → k < w12.heap.size) := Lib.hid fun k hk => HRD2.out.reads.lt k hk
      obtain ⟨wC, hwC⟩ : ∃ wC, wC = w13.alloc (.cells #[.slice a1 n c1] 26) := ⟨_, rfl⟩
      obtain ⟨P5, hP5⟩ : ∃ P5, P5 = w13.heap.size := ⟨_, rfl⟩
      have HSC : Hid (SetD wC (.agg #[.slice a1 n c1]) t) := Lib.hid (by rw [hwC]; exact hs13.on (Kept.alloc _ _ _))
      have HC5 : Hid (wC.cell? ⟨P5, 0, none⟩ = some (.slice a1 n c1)) := Lib.hid (by rw [hwC, hP5]; exact new1P _ _ _)
      have HP5 : Hid (rb < P5 ∧ P5 < wC.heap.size ∧ w12.heap.size ≤ wC.heap.size) := Lib.hid (by
        have h1 := k13.size
        rw [hwC, hP5, World.size_alloc]; omega)
      have HNV : Hid (∀ k, (Value.slice a1 n c1).ownBlock = some k → k ≠ rb) := Lib.hid fun k hk e => by
        have h1 := hn13 _ k rfl hk
        omega
      have HE14 : Hid (EnR wC wC rb rv2 (enc N ++ spansB L)) := Lib.hid (by
        rw [hwC]
        exact ⟨HRD2.out.kept HKC.out (fun h => h) (fun _ _ h => h), Kept.refl _ _⟩)
      have HKAC : Hid (Kept (fun _ => False) wA wC) := Lib.hid (by rw [hwC]; exact KA12.out.then HKC.out)
      have HRB := Lib.hid hrb12
      have HQC := Lib.hid hwC; have HQP := Lib.hid hP5
      clear hs13 hn13 k13 HKC hwC hP5 HRD2 hrb12 KA12
      go_wp2_with fail
      rw [← HQP.out, ← HQC.out]
      clear HQC HQP
      have HCT : Hid (Calls Tryz.prog 22 #[.pointer (some ⟨rb, 0, none⟩), .int .i64 6] wC fun e w' => e = .returned (.int .i64 N) ∧ ∃ v', Rd w' rb v' (spansB L) 0 ∧ v'.ownBlock = rv2.ownBlock ∧ Kept (fun k => k = rb) wC w') := Lib.hid (rcntD_good wC rb rv2 N 6 (spansB L) (by omega) hL6 HE14.out.rd HBN.out)
      refine HCT.out.mono ?_
      rintro e w15 ⟨rfl, rv3, hrd15, hrv15, k15⟩
      have HE15 := Lib.hid (HE14.out.step hrd15 k15)
      have HRV15 := Lib.hid hrv15
      clear hrd15 hrv15 k15 HCT HE14 HBN
      go_wp2_with fail
      go_loopw [12, 13] (fun lv nv wz => ∃ (k : Nat) (a : Option Addr) (c : Nat) (rw' : Value), k ≤ N ∧ nv = .int .i64 ((N - k : Nat) : Int) ∧ lv = .slice a k c ∧ Hid (EnR wC wz rb rw' (spansB (L.drop k)) ∧ rw'.ownBlock = rv2.ownBlock ∧ OwnG ESp 49 wC.heap.size wz (.slice a k c) (L.take k))) (fun _ nv _ => (intOf nv).toNat)
      case atStart => exact ⟨0, none, 0, rv3, Nat.zero_le _, rfl, rfl, Lib.hid ⟨HE15.out, HRV15.out, OwnG.nil _ _ _⟩⟩
      case round =>
        obtain ⟨k, a, c, rw', hk, rfl, rfl, hI⟩ := hrel
        by_cases hlt : k < N
        · have i0 : (0 : Int) < ((N - k : Nat) : Int) := by omega
          have hkl : k < L.length := by rw [← HN.out]; exact hlt
          have hdr : L.drop k = L.getD k (0, 0) :: L.drop (k + 1) := by
            rw [List.drop_eq_getElem_cons hkl]; simp [List.getD, hkl]
          have htk : L.take (k + 1) = L.take k ++ [L.getD k (0, 0)] := by rw [List.take_add_one]; simp [List.getD, hkl]
          have hmem : L.getD k (0, 0) ∈ L := by
            rw [List.getD_eq_getElem?_getD, List.getElem?_eq_getElem hkl]; exact List.getElem_mem _
          have hok := HOK.out _ hmem
          have hal : (L.take k).length = k := by rw [List.length_take]; omega
          generalize L.getD k (0, 0) = pq at *
          obtain ⟨px, py⟩ := pq
          obtain ⟨o1, o2, o3⟩ := hok
          simp only at o1 o2 o3
          obtain ⟨x, rfl⟩ := Int.eq_ofNat_of_zero_le o1
          obtain ⟨y, rfl⟩ := Int.eq_ofNat_of_zero_le (show 0 ≤ py by omega)
          obtain ⟨hE, hrv, hO⟩ := hI.out
          rw [hdr] at hE
          have hsb : spansB (((x : Int), (y : Int)) :: L.drop (k + 1)) = enc x ++ (enc y ++ spansB (L.drop (k + 1))) := by
            simp only [spansB, Int.toNat_natCast, List.append_assoc]
          rw [hsb] at hE
          have hb1 : ∀ b ∈ enc x ++ (enc y ++ spansB (L.drop (k + 1))), b < 256 := fun b hb => by
            rcases List.mem_append.1 hb with h1 | h1
            · exact enc_byte _ b h1
            · exact (List.mem_append.1 h1).elim (enc_byte _ b) (spansB_byte _ b)
          have hx30 : x ≤ 30000 := by omega
          have hy30 : y ≤ 30000 := by omega
          have HN1 : Hid (Calls Tryz.prog 23 #[.pointer (some ⟨rb, 0, none⟩), .int .i64 30000] wr fun e w' => e = .returned (.int .i64 x) ∧ ∃ v', Rd w' rb v' (enc y ++ spansB (L.drop (k + 1))) 0 ∧ v'.ownBlock = rw'.ownBlock ∧ Kept (fun k => k = rb) wr w') := Lib.hid (rnumD_good wr rb rw' x 30000 _ (by omega) hx30 hE.rd hb1)
          have HB2 : Hid (∀ b ∈ enc y ++ spansB (L.drop (k + 1)), b < 256) := Lib.hid fun b hb => hb1 b (List.mem_append_right _ hb)
          have HE := Lib.hid hE; have HRV := Lib.hid hrv; have HO := Lib.hid hO; have HTK := Lib.hid htk
          have hrbC : rb < wC.heap.size := by have := HP5.out; omega
          have HRC : Hid (∀ j, rv2.ownBlock = some j → j < wC.heap.size) := Lib.hid fun j hj => Nat.lt_of_lt_of_le (HRVB.out j hj) HP5.out.2.2
          have HOW : Hid (∀ j, (Value.slice a k c).ownBlock = some j → wC.heap.size ≤ j ∧ j < wr.heap.size) := Lib.hid fun j hj => hO.lt j hj
          have HCW : Hid (wC.heap.size ≤ wr.heap.size) := Lib.hid hE.kept.size
          clear hE hrv hO hI hdr htk hmem hkl hsb hb1 o1 o2 o3
          go_wp2_with fail
          refine HN1.out.mono ?_
          rintro e q1 ⟨rfl, rv4, hrd4, hrv4, k4⟩
          have HE4 := Lib.hid ((HE.out.step hrd4 k4).on (Kept.alloc (fun _ => False) q1 (.cells #[.int .i64 (x : Int), .int .i64 0] 49)))
          have HO4 := Lib.hid ((HO.out.kept k4 (fun j hj e => by have := (HOW.out j hj).1; omega)).alloc (.cells #[.int .i64 (x : Int), .int .i64 0] 49))
          have hq1 : wr.heap.size ≤ q1.heap.size := k4.size
          have HRV4 : Hid (rv4.ownBlock = rv2.ownBlock) := Lib.hid (hrv4.trans HRV.out)
          clear hrd4 hrv4 k4 HE HO HRV HN1
          have HN2 : Hid (Calls Tryz.prog 23 #[.pointer (some ⟨rb, 0, none⟩), .int .i64 30000] (q1.alloc (.cells #[.int .i64 (x : Int), .int .i64 0] 49)) fun e w' => e = .returned (.int .i64 y) ∧ ∃ v', Rd w' rb v' (spansB (L.drop (k + 1))) 0 ∧ v'.ownBlock = rv4.ownBlock ∧ Kept (fun k => k = rb) (q1.alloc (.cells #[.int .i64 (x : Int), .int .i64 0] 49)) w') := Lib.hid (rnumD_good _ rb rv4 y 30000 _ (by omega) hy30 HE4.out.rd HB2.out)
          go_wp2_with fail
          refine HN2.out.mono ?_
          rintro e q2 ⟨rfl, rv5, hrd5, hrv5, k5⟩
          have hrq : rb < q1.heap.size := by have := HCW.out; omega
          have hbx : q2.heap[q1.heap.size]? = some (.cells #[.int .i64 (x : Int), .int .i64 0] 49 (0, 0)) := (k5.block _ (by simp) (fun e => by omega)).trans (heap_alloc_new q1 _)
          have g0 : q2.cell? ⟨q1.heap.size, 0, none⟩ = some (.int .i64 (x : Int)) := by simp [World.cell?, hbx]
          have g1 : q2.cell? ⟨q1.heap.size, 1, none⟩ = some (.int .i64 0) := by simp [World.cell?, hbx]
          have f1 : q2.frozen? ⟨q1.heap.size, 1, none⟩ = false := by simp [World.frozen?, hbx]
          have KX : Kept (fun i => i = q1.heap.size) q2 (q2.setCell ⟨q1.heap.size, 1, none⟩ (.int .i64 (y : Int))) := Kept.setCell _ _ _ _ rfl
          have hq2 : q1.heap.size + 1 ≤ q2.heap.size := by have := k5.size; simp at this; exact this
          have HE5 : Hid (EnR wC (q2.setCell ⟨q1.heap.size, 1, none⟩ (.int .i64 (y : Int))) rb rv5 (spansB (L.drop (k + 1)))) := Lib.hid ((HE4.out.step hrd5 k5).move KX (by omega) (fun j hj e => by
            rw [hrv5, HRV4.out] at hj
            have h1 := HRC.out j hj; have h2 := HCW.out; omega) (fun i hi e => by have h2 := HCW.out; omega))
          have HO5 : Hid (OwnG ESp 49 wC.heap.size (q2.setCell ⟨q1.heap.size, 1, none⟩ (.int .i64 (y : Int))) (.slice a k c) (L.take k)) := Lib.hid ((HO4.out.kept k5 (fun j hj e => by have := (HOW.out j hj).1; omega)).kept KX (fun j hj e => by have := (HOW.out j hj).2; omega))
          have HRV5 : Hid (rv5.ownBlock = rv2.ownBlock) := Lib.hid (hrv5.trans HRV4.out)
          have g2 : (q2.setCell ⟨q1.heap.size, 1, none⟩ (.int .i64 (y : Int))).cell? ⟨q1.heap.size, 0, none⟩ = some (.int .i64 (x : Int)) := by go_simp
          have g3 : (q2.setCell ⟨q1.heap.size, 1, none⟩ (.int .i64 (y : Int))).cell? ⟨q1.heap.size, 1, none⟩ = some (.int .i64 (y : Int)) := by go_simp
          have HSZ : Hid (wC.heap.size ≤ (q2.setCell ⟨q1.heap.size, 1, none⟩ (.int .i64 (y : Int))).heap.size) := Lib.hid (by have h2 := HCW.out; simp; omega)
          have hAL : (L.take k).length ≤ 6 := by omega
          have HY : Hid (RowG ESp ((q2.setCell ⟨q1.heap.size, 1, none⟩ (.int .i64 (y : Int))).alloc (.cells #[.int .i64 (x : Int), .int .i64 (y : Int)] 49)) (.slice (some ⟨q2.heap.size, 0, none⟩) [((x : Int), (y : Int))].length 1) [((x : Int), (y : Int))]) := Lib.hid (by
            have h9 := RowG.new (E := ESp) (q2.setCell ⟨q1.heap.size, 1, none⟩ (.int .i64 (y : Int))) #[.int .i64 (x : Int), .int .i64 (y : Int)] 49 1 [((x : Int), (y : Int))] rfl rfl (by unfold maxLen; omega)
            rw [World.size_setCell] at h9
            exact h9)
          have HLL : Hid ((L.take k ++ [((x : Int), (y : Int))]).length = k + 1) := Lib.hid (by rw [List.length_append, hal]; rfl)
          have HWN : Hid (IntKind.i64.wrap (((N - k : Nat) : Int) - 1) = ((N - (k + 1) : Nat) : Int)) := Lib.hid (by rw [IntWalk.i64_in _ (by omega)]; omega)
          have hwn := HWN.out
          clear hrd5 hrv5 k5 HE4 HO4 HRV4 HN2 hbx KX HB2
          go_wp2_with (first
            | (at_builtin; refine wpList_pushG Tryz.underlying46 info_span rfl (by omega) (by simp [Region.wanted, yielded]) _ _ rfl rfl wC.heap.size _ _ (L.take k) [((x : Int), (y : Int))] rfl rfl (HO5.out.alloc _) HY.out (by simp; omega) (by have := HSZ.out; simp at *; omega) ?_; intro a' c' w4 hown4 hk4 hat4; have HOWN4 := Lib.hid hown4; have HKK4 := Lib.hid hk4; clear hown4 hk4 hat4)
            | fail)
          have HI2 : Hid (EnR wC w4 rb rv5 (spansB (L.drop (k + 1))) ∧ rv5.ownBlock = rv2.ownBlock ∧ OwnG ESp 49 wC.heap.size w4 (.slice a' (k + 1) c') (L.take (k + 1))) := Lib.hid ⟨(HE5.out.on (Kept.alloc _ _ _)).move HKK4.out (fun e => by have := (HOW.out _ e).1; omega) (fun j hj e => by
            rw [HRV5.out] at hj
            have h1 := HRC.out j hj; have h2 := (HOW.out _ e).1; omega) (fun i hi e => by have h2 := (HOW.out _ e).1; omega), HRV5.out, by
            have h3 := HOWN4.out
            rw [HLL.out, ← HTK.out] at h3
            exact h3⟩
          clear hwn
          go_roundw
          case rel => exact ⟨k + 1, a', c', rv5, by omega, rfl, by first | rfl | rw [HLL.out], HI2⟩
          case measure => simp [intOf]; omega
        · obtain rfl : N = k := by omega
          have hN0 : N - N = 0 := Nat.sub_self N
          have h1 : L.take N = L := List.take_of_length_le (by rw [← HN.out]; exact Nat.le_refl _)
          have h2 : L.drop N = [] := List.drop_eq_nil_of_le (by rw [← HN.out]; exact Nat.le_refl _)
          rw [h1, h2] at hI
          rw [hN0]
          have HE16 := Lib.hid hI.out.1; have HO16 := Lib.hid hI.out.2.2.row
          clear hI h1 h2 hN0 HE15 hlt hk
          go_wp2_with fail
          refine (HOF.out _ _ HO16.out).mono ?_
          rintro e w17 ⟨a6, c6, rfl, hs17, k17⟩
          have hE17 := HE16.out.on k17
          have KAr : Kept (fun _ => False) wA wr := HKAC.out.trans HE16.out.kept (fun _ _ h => h) (fun i hi e => by have := HRBA.out; omega)
          have hst : SetD wr (.agg #[.slice a1 n c1]) t := by
            obtain ⟨row, hr1, hr2, hr3⟩ := HSC.out
            injection hr1 with hr1
            injection hr1 with hr1
            injection hr1 with hr1 _
            subst hr1
            exact ⟨_, rfl, hr2.kept HE16.out.kept (fun j hj e => HNV.out j hj e), hr3⟩
          have hc5 : wr.cell? ⟨P5, 0, none⟩ = some (.slice a1 n c1) := (HE16.out.kept.cell (p := ⟨P5, 0, none⟩) HP5.out.2.1 (fun e => by have := HP5.out.1; have e' : P5 = rb := e; omega)).trans HC5.out
          have hP5r : P5 < wr.heap.size := Nat.lt_of_lt_of_le HP5.out.2.1 HE16.out.kept.size
          obtain ⟨wD, hwD⟩ : ∃ wD, wD = w17.alloc (.cells #[.slice a6 n c6] 26) := ⟨_, rfl⟩
          obtain ⟨P7, hP7⟩ : ∃ P7, P7 = w17.heap.size := ⟨_, rfl⟩
          have KrD : Kept (fun _ => False) wr wD := by rw [hwD]; exact k17.then (Kept.alloc _ _ _)
          have HCE : Hid (∀ W, Kept (fun _ => False) wD W → W.cell? ⟨P5, 0, none⟩ = some (.slice a1 n c1) ∧ W.cell? ⟨P3, 0, none⟩ = some (.slice ra n rc) ∧ W.cell? ⟨P7, 0, none⟩ = some (.slice a6 n c6)) := Lib.hid fun W k => by
            have k' := KrD.then k
            refine ⟨(k'.cell (p := ⟨P5, 0, none⟩) hP5r (fun h => h)).trans hc5, HC.out W (KAr.then k'), ?_⟩
            rw [hwD] at k
            rw [hP7]
            exact (k.cell (p := ⟨w17.heap.size, 0, none⟩) (by simp) (fun h => h)).trans (new1P _ _ _)
          have HDS : Hid (∀ W, Kept (fun _ => False) wD W → SetD W (.agg #[.slice ra n rc]) t ∧ SetD W (.agg #[.slice a1 n c1]) t ∧ SetD W (.agg #[.slice a6 n c6]) t) := Lib.hid fun W k => by
            have k' := KrD.then k
            refine ⟨HSA.out.on (KAr.then k'), hst.on k', ?_⟩
            rw [hwD] at k
            exact (hs17.on (Kept.alloc _ _ _)).on k
          have HK0 : Hid (∀ W, Kept (fun _ => False) wD W → Kept (fun _ => False) w0 W) := Lib.hid fun W k => (HKA.out.then KAr).then (KrD.then k)
          have HEND : Hid (∀ W, Kept (fun _ => False) wD W → Calls Tryz.prog 25 #[.pointer (some ⟨rb, 0, none⟩)] W fun e w' => e = .returned (.int .i64 0) ∧ Kept (fun _ => False) W w') := Lib.hid fun W k => by
            have h1 := end_any W rb rv2 [] 0
            have h2 := (HE16.out.on (KrD.then k)).rd
            exact (end_any W rb _ [] 0 h2).mono fun e w' ⟨h3, h4⟩ => ⟨by rw [h3, if_neg (by simp)], by rw [h4]; exact Kept.refl _ _⟩
          have HQD := Lib.hid hwD; have HQ7 := Lib.hid hP7
          clear hs17 k17 hE17 KAr hst hc5 hP5r hwD hP7 KrD HE16 HO16 HOF HSC HC5 HNV
          go_wp2_with fail
          rw [← HQ7.out, ← HQD.out]
          clear HQD HQ7
          obtain ⟨dd, hdd⟩ : ∃ dd, dd = digS ((enc (ByteArray.size ⟨#[100, 97, 121, 115]⟩) ++ strB ⟨#[100, 97, 121, 115]⟩) ++ encN (fun i => [strB TT].getD i []) 1) := ⟨_, rfl⟩
          have kc := fun (W : World) => Lib.run_convert_string_bytes (P := Tryz.prog) W 9 52 5 TT Tryz.underlying9 Tryz.underlying52 Tryz.underlying5
          have EQ : ∀ W : World, (Op.equalIn 10000 59 (.agg (arr8 dd).toArray) (.agg (arr8 dd).toArray)).run Tryz.prog W = .ok true W := fun W => by rw [hdd]; exact eqSame W _
          have HTG : Hid (∀ W, Kept (fun _ => False) wD W → Calls Tryz.prog 26 #[.string ⟨#[100, 97, 121, 115]⟩, .slice (some ⟨(Lib.bytesWorld W 5 TT).heap.size, 0, none⟩) 1 1] ((Lib.bytesWorld W 5 TT).alloc (.cells #[.slice (some ⟨W.heap.size, 0, none⟩) TT.size (grownCap W TT.size 0 5)] 52)) fun e w' => e = .returned (.agg (arr8 dd).toArray) ∧ Kept (fun _ => False) W w') := Lib.hid fun W k => by
            have k1 := kept_bwD W 5 TT
            have k2 := Kept.alloc (fun _ => False) (Lib.bytesWorld W 5 TT) (.cells #[.slice (some ⟨W.heap.size, 0, none⟩) TT.size (grownCap W TT.size 0 5)] 52)
            have h1 := lb1D (Lib.bytesWorld W 5 TT) _ (strB TT) 52 (0, 0) (reads_bwD W 5 TT (by omega)) (strB_byte TT)
            have h2 := tagged_any ⟨#[100, 97, 121, 115]⟩ _ _ _ 1 _ (HKT.out.kept (HK0.out W (k)|>.then (k1.then k2)) (fun _ _ h => h)) h1 (by decide) (by omega) (fun i hi => by
              match i, hi with
              | 0, _ => show (strB TT).length ≤ 1000; rw [strB_length]; omega)
            rw [← hdd] at h2
            exact h2.mono fun e w' ⟨h3, h4⟩ => ⟨h3, k1.then (k2.then h4)⟩
          clear hdd
          go_region_held (fun W => W.cell? ⟨P5, 0, none⟩ = some (.slice a1 n c1) ∧ W.cell? ⟨P3, 0, none⟩ = some (.slice ra n rc) ∧ W.cell? ⟨P7, 0, none⟩ = some (.slice a6 n c6))
            (first | exact HCE.out _ KC.out | exact HCE.out _ (Kept.refl _ _) | exact HCE.out _ (Kept.refl _ _).drew | exact HCE.out _ (KC.out.then (kept_bwD _ _ _)) | exact HCE.out _ ((KC.out.then (kept_bwD _ _ _)).then (Kept.alloc _ _ _)))
            ((first | (go_at_call 25; with_reducible refine (HEND.out _ (show Kept (fun _ => False) wD _ from (by first | exact KC.out | exact Kept.refl _ _ | exact (Kept.refl _ _).drew))).mono ?_; rintro e qq ⟨rfl, j1⟩; have KD := Lib.hid (Kept.then (show Kept (fun _ => False) wD _ from (by first | exact KC.out | exact Kept.refl _ _ | exact (Kept.refl _ _).drew)) j1); (try clear KC); have KC := KD; clear KD; clear j1) | (go_at_call 11; with_reducible refine (HEQ.out _ _ _ (HDS.out _ (show Kept (fun _ => False) wD _ from (by first | exact KC.out | exact Kept.refl _ _ | exact (Kept.refl _ _).drew))).2.1 (HDS.out _ (show Kept (fun _ => False) wD _ from (by first | exact KC.out | exact Kept.refl _ _ | exact (Kept.refl _ _).drew))).1).mono ?_; rintro e qq ⟨rfl, j1⟩; have KD := Lib.hid (Kept.then (show Kept (fun _ => False) wD _ from (by first | exact KC.out | exact Kept.refl _ _ | exact (Kept.refl _ _).drew)) j1); (try clear KC); have KC := KD; clear KD; clear j1) | (go_at_call 11; with_reducible refine (HEQ.out _ _ _ (HDS.out _ (show Kept (fun _ => False) wD _ from (by first | exact KC.out | exact Kept.refl _ _ | exact (Kept.refl _ _).drew))).2.2 (HDS.out _ (show Kept (fun _ => False) wD _ from (by first | exact KC.out | exact Kept.refl _ _ | exact (Kept.refl _ _).drew))).1).mono ?_; rintro e qq ⟨rfl, j1⟩; have KD := Lib.hid (Kept.then (show Kept (fun _ => False) wD _ from (by first | exact KC.out | exact Kept.refl _ _ | exact (Kept.refl _ _).drew)) j1); (try clear KC); have KC := KD; clear KD; clear j1) | (go_at_call 8; with_reducible refine (HTX.out _ _ _ (HK0.out _ (show Kept (fun _ => False) wD _ from (by first | exact KC.out | exact Kept.refl _ _ | exact (Kept.refl _ _).drew))) (HDS.out _ (show Kept (fun _ => False) wD _ from (by first | exact KC.out | exact Kept.refl _ _ | exact (Kept.refl _ _).drew))).2.1).mono ?_; rintro e qq ⟨rfl, j1⟩; have KD := Lib.hid (Kept.then (show Kept (fun _ => False) wD _ from (by first | exact KC.out | exact Kept.refl _ _ | exact (Kept.refl _ _).drew)) j1); (try clear KC); have KC := KD; clear KD; clear j1) | (go_at_call 8; with_reducible refine (HTX.out _ _ _ (HK0.out _ (show Kept (fun _ => False) wD _ from (by first | exact KC.out | exact Kept.refl _ _ | exact (Kept.refl _ _).drew))) (HDS.out _ (show Kept (fun _ => False) wD _ from (by first | exact KC.out | exact Kept.refl _ _ | exact (Kept.refl _ _).drew))).2.2).mono ?_; rintro e qq ⟨rfl, j1⟩; have KD := Lib.hid (Kept.then (show Kept (fun _ => False) wD _ from (by first | exact KC.out | exact Kept.refl _ _ | exact (Kept.refl _ _).drew)) j1); (try clear KC); have KC := KD; clear KD; clear j1) | (go_at_call 26; with_reducible refine (HTG.out _ (show Kept (fun _ => False) wD _ from (by first | exact KC.out | exact Kept.refl _ _ | exact (Kept.refl _ _).drew))).mono ?_; rintro e qq ⟨rfl, j1⟩; have KD := Lib.hid (Kept.then (show Kept (fun _ => False) wD _ from (by first | exact KC.out | exact Kept.refl _ _ | exact (Kept.refl _ _).drew)) j1); (try clear KC); have KC := KD; clear KD; clear j1)))
          all_goals
            have HE := Lib.hid (HK0.out _ KC.out)
            clear KC kc EQ
            go_wp2_with fail
            go_ret
            exact ⟨rfl, HE.out⟩
end Go.Proofs.YtjglnpijngdpkaaGreatDoor
