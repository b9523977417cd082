import Derived.Test.YtjglnpijngdpkaaGreatDoorDyTx
import Derived.Test.YtjglnpijngdpkaaGreatDoorDyF
import Derived.Test.YtjglnpijngdpkaaGreatDoorDyL
import Derived.Test.YtjglnpijngdpkaaGreatDoorDyB
/-
  Days: the chapter's examples hold.
-/
namespace Go.Proofs.YtjglnpijngdpkaaGreatDoor
open Go.RowKit Go.Shelf
set_option linter.unusedSimpArgs false
set_option linter.unusedVariables false
set_option maxRecDepth 100000

/-- The example's turns. -/
def exT : List Int := [3, 9, 10, 11, 20, 30001]
def exL : List (Int × Int) := [(10, 10), (3, 7), (8, 8), (20, 30000)]
def exN : List Int := [0, 3, 9, 10, 11, 20]
def exE : List Int := [30000, 30001]
theorem cntD_nil (d : Int) : cntD [] d = 0 := rfl
theorem inD_six (a b c x y z d : Int) : inD [a, b, c, x, y, z] d = decide (((if a ≤ d then 1 else 0) + ((if b ≤ d then 1 else 0) + ((if c ≤ d then 1 else 0) + ((if x ≤ d then 1 else 0) + ((if y ≤ d then 1 else 0) + ((if z ≤ d then 1 else 0) + 0)))))) % 2 = 1) := by
  unfold inD oddD
  simp only [cntD_cons, cntD_nil]
theorem exT_can : CanD exT := ⟨by decide, by decide, by decide, rfl⟩
theorem exN_can : CanD exN := ⟨by decide, by decide, by decide, rfl⟩
theorem exE_can : CanD exE := ⟨by decide, by decide, by decide, rfl⟩
theorem exT_in (d : Int) (h0 : 0 ≤ d) (h1 : d ≤ 30000) : inD exT d = spanIn exL d := by
  unfold exT exL spanIn
  rw [inD_six, Bool.eq_iff_iff, decide_eq_true_iff]
  simp only [List.any_cons, List.any_nil, Bool.or_eq_true, Bool.and_eq_true, decide_eq_true_iff, Bool.or_false]
  repeat' split
  all_goals omega
theorem exN_in (d : Int) (h0 : 0 ≤ d) (h1 : d ≤ 30000) : inD exN d = !inD exT d := by
  unfold exN exT
  rw [inD_six, inD_six, ← decide_not, decide_eq_decide]
  repeat' split
  all_goals omega
theorem exE_in (d : Int) (h0 : 0 ≤ d) (h1 : d ≤ 30000) : inD exE d = spanIn [(30000, 30000)] d := by
  unfold exE spanIn inD oddD
  simp only [cntD_cons, cntD_nil]
  rw [Bool.eq_iff_iff, decide_eq_true_iff]
  simp only [List.any_cons, List.any_nil, Bool.or_eq_true, Bool.and_eq_true, decide_eq_true_iff, Bool.or_false]
  repeat' split
  all_goals omega
theorem it1 (k : Nat) (h : k < 10) : Lib.itoa (k : Int) = [UInt8.ofNat (48 + k)] := by rw [Lib.itoa_nonneg, Lib.decDigits_one h]
theorem it2 (k : Nat) (h : ¬ k < 10) : Lib.itoa (k : Int) = Lib.itoa ((k / 10 : Nat) : Int) ++ [UInt8.ofNat (48 + k % 10)] := by rw [Lib.itoa_nonneg, Lib.itoa_nonneg, Lib.decDigits, dif_neg h]
theorem itA : Lib.itoa 3 = [51] ∧ Lib.itoa 8 = [56] ∧ Lib.itoa 0 = [48] ∧ Lib.itoa 2 = [50] ∧ Lib.itoa 9 = [57] ∧ Lib.itoa 1 = [49] :=
  ⟨it1 3 (by omega), it1 8 (by omega), it1 0 (by omega), it1 2 (by omega), it1 9 (by omega), it1 1 (by omega)⟩
theorem itB : Lib.itoa 10 = [49, 48] ∧ Lib.itoa 20 = [50, 48] ∧ Lib.itoa 11 = [49, 49] ∧ Lib.itoa 19 = [49, 57] ∧ Lib.itoa 30000 = [51, 48, 48, 48, 48] := by
  obtain ⟨a3, a8, a0, a2, a9, a1⟩ := itA
  refine ⟨?_, ?_, ?_, ?_, ?_⟩
  · exact (it2 10 (by omega)).trans (by rw [show ((10 / 10 : Nat) : Int) = 1 from rfl, a1]; rfl)
  · exact (it2 20 (by omega)).trans (by rw [show ((20 / 10 : Nat) : Int) = 2 from rfl, a2]; rfl)
  · exact (it2 11 (by omega)).trans (by rw [show ((11 / 10 : Nat) : Int) = 1 from rfl, a1]; rfl)
  · exact (it2 19 (by omega)).trans (by rw [show ((19 / 10 : Nat) : Int) = 1 from rfl, a1]; rfl)
  · refine (it2 30000 (by omega)).trans ?_
    rw [show ((30000 / 10 : Nat) : Int) = ((3000 : Nat) : Int) from rfl, it2 3000 (by omega)]
    rw [show ((3000 / 10 : Nat) : Int) = ((300 : Nat) : Int) from rfl, it2 300 (by omega)]
    rw [show ((300 / 10 : Nat) : Int) = ((30 : Nat) : Int) from rfl, it2 30 (by omega)]
    rw [show ((30 / 10 : Nat) : Int) = 3 from rfl, a3]; rfl
theorem exT_text : textD exT = [51, 45, 56, 44, 49, 48, 44, 50, 48, 45] := by
  obtain ⟨a3, a8, a0, a2, a9, a1⟩ := itA
  obtain ⟨b0, b1, b2, b3, b4⟩ := itB
  show txD [(3, 8), (10, 10), (20, 30000)] = _
  simp [txD, spanT, a3, a8, b0, b1]
theorem exN_text : textD exN = [48, 45, 50, 44, 57, 44, 49, 49, 45, 49, 57] := by
  obtain ⟨a3, a8, a0, a2, a9, a1⟩ := itA
  obtain ⟨b0, b1, b2, b3, b4⟩ := itB
  show txD [(0, 2), (9, 9), (11, 19)] = _
  simp [txD, spanT, a0, a2, a9, b2, b3]
theorem exE_text : textD exE = [51, 48, 48, 48, 48] := by
  obtain ⟨b0, b1, b2, b3, b4⟩ := itB
  show txD [(30000, 30000)] = _
  simp [txD, spanT, b4]
theorem exT_next {n : Int} {ok : Bool} (h : NextD exT 9 n ok) : n = 10 ∧ ok = true := by
  have h10 : inD exT 10 = true := by decide
  have h9 : inD exT 9 = false := by decide
  rcases h with ⟨h1, h2, h3, h4⟩ | ⟨h1, h2, h3⟩
  · refine ⟨?_, h1⟩
    by_cases e : n < 10
    · obtain rfl : n = 9 := by omega
      rw [h9] at h3; cases h3
    · by_cases e2 : 10 < n
      · have := h4 10 (by omega) e2
        rw [h10] at this; cases this
      · omega
  · have := h3 10 (by omega)
    rw [h10] at this; cases this
theorem ofX_any (w0 : World) (v : Value) (l : List (Int × Int)) (t : List Int) (h : RowG ESp w0 v l) (hl : l.length ≤ 100000) (he : errD l = 0) (hc : CanD t) (ht : ∀ d, 0 ≤ d → d ≤ 30000 → inD t d = spanIn l d) :
    Calls Tryz.prog 24 #[v] w0 fun e w' => ∃ a c, e = .returned (.tuple #[.agg #[.slice a t.length c], .int .i64 0]) ∧ SetD w' (.agg #[.slice a t.length c]) t ∧ Kept (fun _ => False) w0 w' := by
  refine (ofD_any w0 v l h hl).mono ?_
  rintro e w' ⟨sv, rfl, k, ⟨_, u, hu, hin⟩ | ⟨hne, _⟩⟩
  · obtain rfl : u = t := canD_unique hu.can hc fun d h0 h1 => by rw [hin, ht d h0 h1]
    have hu2 := hu
    obtain ⟨row, rfl, hr, _⟩ := hu2
    obtain ⟨a, c, rfl, _, _⟩ := hr.form
    exact ⟨a, c, by rw [he], hu, k⟩
  · exact absurd he hne
theorem notX_any (w0 : World) (v : Value) (t u : List Int) (h : SetD w0 v t) (hc : CanD u) (hu : ∀ d, 0 ≤ d → d ≤ 30000 → inD u d = !inD t d) :
    Calls Tryz.prog 29 #[v] w0 fun e w' => ∃ x, e = .returned x ∧ SetD w' x u ∧ Kept (fun _ => False) w0 w' := by
  refine (dayNot_any v t w0 h).mono ?_
  rintro e w' ⟨x, r, rfl, hr, hin, k⟩
  obtain rfl : r = u := canD_unique hr.can hc fun d h0 h1 => by rw [hin d h0 h1, hu d h0 h1]
  exact ⟨x, rfl, hr, k⟩
/-- The library's table, from whatever world on. -/
def TabD (w : World) : Prop := Lib.TabBelow Tryz.prog w.heap.size w "internal/strconv.uint64pow10" .u64 Lib.pow10Tab
theorem TabD.on {a b : World} (h : TabD a) (k : Kept (fun _ => False) a b) : TabD b := tab_onD h (below_kept k (fun _ h => h.elim) (Nat.le_refl _)) k.size

set_option maxHeartbeats 6400000 in
theorem awD_any (w0 : World) (hT : TabD w0) :
    Calls Tryz.prog 6 #[] w0 fun e w' => e = .returned (.bool true) ∧ Kept (fun _ => False) w0 w' := by
  have HROW : Hid (RowG ESp (w0.alloc (.cells #[.int .i64 10, .int .i64 10, .int .i64 3, .int .i64 7, .int .i64 8, .int .i64 8, .int .i64 20, .int .i64 30000] 62)) (.slice (some ⟨w0.heap.size, 0, none⟩) 4 4) exL) := Lib.hid (RowG.new w0 #[.int .i64 10, .int .i64 10, .int .i64 3, .int .i64 7, .int .i64 8, .int .i64 8, .int .i64 20, .int .i64 30000] 62 4 exL rfl rfl (by unfold maxLen; omega))
  have HK0 := Lib.hid (Kept.alloc (fun _ => False) w0 (.cells #[.int .i64 10, .int .i64 10, .int .i64 3, .int .i64 7, .int .i64 8, .int .i64 8, .int .i64 20, .int .i64 30000] 62))
  have HT := Lib.hid hT
  clear hT
  go_enter Tryz.func6, Tryz.ntmps6
  go_wp2_with fail
  refine (spansL_any _ _ exL HROW.out (by decide)).mono ?_
  rintro e w2 ⟨u, rfl, hu, k2⟩
  obtain ⟨ua, uc, rfl, _, _⟩ := hu.form
  have HU := Lib.hid hu.row
  have HK2 := Lib.hid (HK0.out.then k2)
  clear hu k2 HROW HK0
  go_wp2_with fail
  refine (ofX_any _ _ exL exT HU.out (by decide) (by decide) exT_can exT_in).mono ?_
  rintro e w3 ⟨sa, sc, rfl, hs, k3⟩
  have HS := Lib.hid hs
  have HK3 := Lib.hid (HK2.out.then k3)
  clear hs k3 HU HK2
  have HK4 := Lib.hid (Kept.alloc (fun _ => False) w3 (.cells #[.slice sa exT.length sc] 26))
  have c0 : (w3.alloc (.cells #[.slice sa exT.length sc] 26)).cell? ⟨w3.heap.size, 0, none⟩ = some (.slice sa exT.length sc) := by go_simp
  have HC4 : Hid (∀ W, Kept (fun _ => False) (w3.alloc (.cells #[.slice sa exT.length sc] 26)) W → W.cell? ⟨w3.heap.size, 0, none⟩ = some (.slice sa exT.length sc)) := Lib.hid fun W k => (k.cell (p := ⟨w3.heap.size, 0, none⟩) (by simp) (fun h => h)).trans c0
  have HSS : Hid (∀ W, Kept (fun _ => False) w3 W → SetD W (.agg #[.slice sa exT.length sc]) exT) := Lib.hid fun W k => HS.out.on k
  clear c0 HS
  obtain ⟨n6, hn6⟩ : ∃ n, n = exT.length := ⟨_, rfl⟩
  rw [← hn6] at HC4 HSS HK4 ⊢
  clear hn6
  go_wp2_with fail
  refine (spansP_any _ _ exT (HSS.out _ HK4.out)).mono ?_
  generalize hw4 : w3.alloc (.cells #[.slice sa n6 sc] 26) = w4 at *
  clear hw4
  rintro e w5 ⟨u, rfl, hu, k5⟩
  rw [show spansD exT = [(3, 8), (10, 10), (20, 30000)] from rfl] at hu
  obtain ⟨la, lc, rfl, _, _⟩ := hu.form
  rw [show ([(3, 8), (10, 10), (20, 30000)] : List (Int × Int)).length = 3 from rfl] at hu ⊢
  have HL5 : Hid (RowG ESp w5 (.slice la 3 lc) [(3, 8), (10, 10), (20, 30000)]) := Lib.hid hu.row
  have HK5 := Lib.hid (HK4.out.then k5)
  have HJ5 := Lib.hid k5
  have c5 := HC4.out w5 k5
  clear hu k5 HK4
  go_wp2_with fail
  refine (nextD_any _ exT 9 _ (HSS.out _ HK5.out)).mono ?_
  rintro e w6 ⟨nn, ok, rfl, hnx, k6⟩
  obtain ⟨rfl, rfl⟩ := exT_next hnx
  have HK6 := Lib.hid (HK5.out.then k6)
  have HJ6 := Lib.hid (HJ5.out.then k6)
  have HL6 := Lib.hid (HL5.out.on k6)
  have HR6 : Hid (RowG ESp (w6.alloc (.cells #[.int .i64 30000, .int .i64 30000] 49)) (.slice (some ⟨w6.heap.size, 0, none⟩) 1 1) [(30000, 30000)]) := Lib.hid (RowG.new w6 #[.int .i64 30000, .int .i64 30000] 49 1 [(30000, 30000)] rfl rfl (by unfold maxLen; omega))
  have HA6 := Lib.hid (Kept.alloc (fun _ => False) w6 (.cells #[.int .i64 30000, .int .i64 30000] 49))
  clear hnx k6 HJ5 HL5 HK5 c5
  go_wp2_with fail
  refine (ofX_any _ _ [(30000, 30000)] exE HR6.out (by decide) (by decide) exE_can exE_in).mono ?_
  rintro e w7 ⟨ea, ec, rfl, hs, k7⟩
  have HE7 := Lib.hid hs
  have HK7 := Lib.hid ((HK6.out.then HA6.out).then k7)
  have HJ7 := Lib.hid ((HJ6.out.then HA6.out).then k7)
  have HL7 := Lib.hid ((HL6.out.on HA6.out).on k7)
  clear hs k7 HR6 HA6 HK6 HJ6 HL6
  have HK8 := Lib.hid (Kept.alloc (fun _ => False) w7 (.cells #[.slice ea exE.length ec] 26))
  have c0 : (w7.alloc (.cells #[.slice ea exE.length ec] 26)).cell? ⟨w7.heap.size, 0, none⟩ = some (.slice ea exE.length ec) := by go_simp
  have HC8 : Hid (∀ W, Kept (fun _ => False) (w7.alloc (.cells #[.slice ea exE.length ec] 26)) W → W.cell? ⟨w7.heap.size, 0, none⟩ = some (.slice ea exE.length ec)) := Lib.hid fun W k => (k.cell (p := ⟨w7.heap.size, 0, none⟩) (by simp) (fun h => h)).trans c0
  have HEE : Hid (∀ W, Kept (fun _ => False) w7 W → SetD W (.agg #[.slice ea exE.length ec]) exE) := Lib.hid fun W k => HE7.out.on k
  obtain ⟨n2, hn2⟩ : ∃ n, n = exE.length := ⟨_, rfl⟩
  rw [← hn2] at HC8 HEE HK8 ⊢
  clear c0 hn2 HE7
  obtain ⟨w8, hw8⟩ : ∃ w8, w8 = w7.alloc (.cells #[.slice ea n2 ec] 26) := ⟨_, rfl⟩
  rw [← hw8] at HK8 HC8
  have c4 := HC4.out w8 (HJ7.out.then HK8.out)
  obtain ⟨g, off, rfl, hg, ha0⟩ := (HL7.out.on HK8.out).at (k := 0) (by decide)
  obtain ⟨g', off', hgg, _, ha2⟩ := (HL7.out.on HK8.out).at (k := 2) (by decide)
  obtain ⟨rfl, rfl⟩ : g = g' ∧ off = off' := by injection hgg with e; injection e with h1 h2; exact ⟨h1, h2⟩
  obtain ⟨a0, a1⟩ := atESp ha0
  obtain ⟨a2, a3⟩ := atESp ha2
  change w8.cell? ⟨g, off + 0, none⟩ = some (.int .i64 3) at a0
  change w8.cell? ⟨g, off + 0 + 1, none⟩ = some (.int .i64 8) at a1
  change w8.cell? ⟨g, off + 4, none⟩ = some (.int .i64 20) at a2
  change w8.cell? ⟨g, off + 4 + 1, none⟩ = some (.int .i64 30000) at a3
  rw [Nat.add_zero] at a0 a1
  have HJ8 := Lib.hid (HK7.out.then HK8.out)
  have HTX := Lib.hid (textP_any w8 _ exT (HSS.out _ HJ8.out) (HT.out.on (HK3.out.then HJ8.out)))
  have lc0 : 3 ≤ lc := by
    obtain ⟨x, y, h1, h2, _⟩ := HL7.out.form
    injection h1 with _ _ h3
  rw [hw8] at a0 a1 a2 a3 c4 HTX
  rw [exT_text] at HTX
  clear hg ha0 ha2 hgg HL7
  go_wp2_with fail
  rw [← hw8]
  refine (show Calls _ _ _ w8 _ from hw8 ▸ HTX.out).mono ?_
  rintro e w9 ⟨rfl, k9⟩
  have HJ9 := Lib.hid (HJ8.out.then k9)
  have HB9 := Lib.hid k9
  have c9 := HC4.out w9 (HJ7.out.then (HK8.out.then k9))
  have HM9 := Lib.hid ((HJ7.out.then (HK8.out.then k9)))
  clear k9 HTX a0 a1 a2 a3 c4 HJ8
  go_wp2_with fail
  refine (notX_any _ _ exT exN (HSS.out _ HJ9.out) exN_can exN_in).mono ?_
  rintro e w10 ⟨x, rfl, hx, k10⟩
  have HX := Lib.hid hx
  have HJ10 := Lib.hid (HJ9.out.then k10)
  have HB10 := Lib.hid (HB9.out.then k10)
  have HTY := Lib.hid (textP_any w10 _ exN hx (HT.out.on (HK3.out.then HJ10.out)))
  rw [exN_text] at HTY
  clear hx k10 HJ9 HB9 c9 HM9 HX
  go_wp2_with fail
  refine HTY.out.mono ?_
  rintro e w11 ⟨rfl, k11⟩
  have HJ11 := Lib.hid (HJ10.out.then k11)
  have HB11 := Lib.hid (HB10.out.then k11)
  have c11 := HC8.out w11 HB11.out
  have HTZ := Lib.hid (textP_any w11 _ exE (HEE.out _ (HK8.out.then HB11.out)) (HT.out.on (HK3.out.then HJ11.out)))
  rw [exE_text] at HTZ
  clear k11 HJ10 HB10 HTY
  go_wp2_with fail
  refine HTZ.out.mono ?_
  rintro e w12 ⟨rfl, k12⟩
  have HF := Lib.hid (HK3.out.then (HJ11.out.then k12))
  clear k12 HTZ
  go_wp2_with fail
  go_ret
  exact ⟨rfl, HF.out⟩
end Go.Proofs.YtjglnpijngdpkaaGreatDoor
