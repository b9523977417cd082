/-
  arbaclaw07.PathOrders: the walk of the law.
-/
import Derived.Test.YtbmkfacmbjnkaaaDoorPaOm
import Derived.Test.YtbmkfacmbjnkaaaDoorPaAk
import Derived.Deep.RegionHeld3
import Derived.Deep.Cut
import Derived.Deep.CutRange
namespace Go.Proofs.YtbmkfacmbjnkaaaDoor
open Go.RowKit Go.Maps Go.WideMaps Go.ChangeMaps
set_option linter.unusedSimpArgs false
set_option linter.unusedVariables false

set_option maxRecDepth 100000 in
set_option maxHeartbeats 6400000 in
theorem orders_law (c0 c1 c2 : Value) (x0 x1 x2 : List Nat) (w : World) (h0 : LooseB w c0 x0) (h1 : LooseB w c1 x1) (h2 : LooseB w c2 x2) :
    Calls Tryd.prog 7 #[.agg #[c0, c1, c2]] w fun e w' => e = .returned (.bool true) ∧ Kept (fun _ => False) w w' := by
  obtain ⟨wA, hwA⟩ : ∃ wA, wA = w.alloc (.cells #[c0, c1, c2] 44) := ⟨_, rfl⟩
  have hkA : Kept (fun _ => False) w wA := by rw [hwA]; exact Kept.alloc _ _ _
  have hbx : ∀ W, Kept (fun _ => False) wA W → W.cell? ⟨w.heap.size, 0, none⟩ = some c0 ∧ W.cell? ⟨w.heap.size, 1, none⟩ = some c1 ∧ W.cell? ⟨w.heap.size, 2, none⟩ = some c2 := fun W hk => by
    have hsz : wA.heap.size = w.heap.size + 1 := by rw [hwA]; simp
    refine ⟨(hk.cell (p := ⟨w.heap.size, 0, none⟩) (by simp; omega) (fun h => h)).trans (by rw [hwA]; go_simp), (hk.cell (p := ⟨w.heap.size, 1, none⟩) (by simp; omega) (fun h => h)).trans (by rw [hwA]; go_simp), (hk.cell (p := ⟨w.heap.size, 2, none⟩) (by simp; omega) (fun h => h)).trans (by rw [hwA]; go_simp)⟩
  have hm : ∀ v xs, LooseB w v xs → ∀ W, Kept (fun _ => False) wA W → Calls Tryd.prog 34 #[v] W fun e w' => e = .returned (.string (makeS xs)) ∧ Kept (fun _ => False) W w' := fun v xs h W hk => make_any v xs _ W (h.loose.kept (hkA.then hk) (fun _ _ h => h)) h.byte h.len
  have hm0 := hm c0 x0 h0
  have hm1 := hm c1 x1 h1
  have hm2 := hm c2 x2 h2
  obtain ⟨d, hF, hdz⟩ := ordF (makeS_path x0) (makeS_path x1) (makeS_path x2)
  have za := path_size (makeS_names x0)
  have zb := path_size (makeS_names x1)
  have zc := path_size (makeS_names x2)
  generalize makeS x0 = a at hm0 hF za
  generalize makeS x1 = b at hm1 hF zb
  generalize makeS x2 = c at hm2 hF zc
  have hcmp : ∀ p q : ByteArray, p.size ≤ 10000 → q.size ≤ 10000 → ∀ W, Calls Tryd.prog 33 #[.string p, .string q] W fun e w' => e = .returned (.int .i64 (compareS p q)) ∧ Kept (fun _ => False) W w' := fun p q hp hq W => (compare_any p q (by omega) (by omega) W).mono fun e w' h => ⟨h.1, h.2.1⟩
  have HAB := Lib.hid (hcmp a b za zb); have HBC := Lib.hid (hcmp b c zb zc); have HAC := Lib.hid (hcmp a c za zc)
  have HWBA := Lib.hid (within_any b a (by omega) (by omega)); have HWCA := Lib.hid (within_any c a (by omega) (by omega))
  have HWAC := Lib.hid (within_any a c (by omega) (by omega)); have HWBC := Lib.hid (within_any b c (by omega) (by omega))
  have hwad := within_any a d (by omega) (by omega)
  have hwbd := within_any b d (by omega) (by omega)
  have HWDC := Lib.hid (within_any d c (by omega) (by omega))
  rw [hF.da] at hwad
  rw [hF.db] at hwbd
  have hco := common_any a b (by omega) (by omega)
  rw [hF.com] at hco
  have HCO : Hid (∀ W, Calls Tryd.prog 28 #[.string a, .string b] W fun e w' => e = .returned (.tuple #[.string d, .bool true]) ∧ Kept (fun _ => False) W w') := hco
  have HWAD := Lib.hid hwad; have HWBD := Lib.hid hwbd
  have ht := hF.trans; have hs := hF.same; have hu := hF.up; have hmd := hF.mid; have hl := hF.least
  have hr1 := compareT_vals a b; have hr2 := compareT_vals b c; have hr3 := compareT_vals a c
  generalize compareS a b = r1 at HAB ht hs hu hmd hr1
  generalize compareS b c = r2 at HBC ht hmd hr2
  generalize compareS a c = r3 at HAC ht hr3
  generalize withinS b a = wba at HWBA hu hmd
  generalize withinS c a = wca at HWCA hmd
  generalize withinS a c = wac at HWAC hl
  generalize withinS b c = wbc at HWBC hl
  generalize withinS d c = wdc at HWDC hl
  have HT := Lib.hid ht; have HS := Lib.hid hs; have HU := Lib.hid hu; have HMD := Lib.hid hmd; have HL := Lib.hid hl
  have HM0 := Lib.hid hm0; have HM1 := Lib.hid hm1; have HM2 := Lib.hid hm2
  have HBX := Lib.hid hbx; have HKA := Lib.hid hkA; have HWA := Lib.hid hwA
  have HR1 := Lib.hid hr1; have HR2 := Lib.hid hr2; have HR3 := Lib.hid hr3
  clear hm hm0 hm1 hm2 hF hcmp hwad hwbd hco ht hs hu hmd hl hbx hkA hwA h0 h1 h2 hr1 hr2 hr3
  go_enter Tryd.func7, Tryd.ntmps7
  go_wp2_with fail
  rw [← HWA.out]
  refine (awake7_any _).mono ?_
  rintro e w1 ⟨rfl, k1⟩
  have K1 := Lib.hid k1; clear k1
  go_wp2_with fail
  go_cut [3, 4, 5] from 3 to 18 (fun av bv cv wx => av = .string a ∧ bv = .string b ∧ cv = .string c ∧ Hid (Kept (fun _ => False) wA wx))
  case first =>
    have D5 := Lib.hid (K1.out.drew)
    obtain ⟨s0, s1, s2⟩ := HBX.out w1 K1.out
    go_region_held3 (fun w' => w'.cell? ⟨w.heap.size, 0, none⟩ = some c0 ∧ w'.cell? ⟨w.heap.size, 1, none⟩ = some c1 ∧ w'.cell? ⟨w.heap.size, 2, none⟩ = some c2)
      (first | exact HBX.out _ D8.out | exact HBX.out _ D7.out | exact HBX.out _ D6.out | exact HBX.out _ D5.out)
      ((go_at_call 34; (first | (with_reducible refine (HM0.out _ D7.out).mono ?_) | (with_reducible refine (HM1.out _ D7.out).mono ?_) | (with_reducible refine (HM2.out _ D7.out).mono ?_) | (with_reducible refine (HM0.out _ D6.out).mono ?_) | (with_reducible refine (HM1.out _ D6.out).mono ?_) | (with_reducible refine (HM2.out _ D6.out).mono ?_) | (with_reducible refine (HM0.out _ D5.out).mono ?_) | (with_reducible refine (HM1.out _ D5.out).mono ?_) | (with_reducible refine (HM2.out _ D5.out).mono ?_)); rintro e w6 ⟨rfl, k6⟩; (first | (have D8 := Lib.hid (D7.out.then k6)) | (have D7 := Lib.hid (D6.out.then k6)) | (have D6 := Lib.hid (D5.out.then k6))); clear k6))
    all_goals
      clear s0 s1 s2
      go_wp2_with fail
      go_meet
      exact ⟨rfl, rfl, rfl, D8⟩
  case rest =>
    obtain ⟨rfl, rfl, rfl, K3⟩ := hcut
    go_upto_region 4 with (fail)
    go_cut [45] from 19 to 45 (fun v wx => v = .bool false ∧ Hid (Kept (fun _ => False) wA wx))
    case first =>
      rcases HR1.out with rfl | rfl | rfl
      · have _m := K3
        go_wp2_with fail
        refine (HAB.out _).mono ?_
        rintro e w11 ⟨rfl, k11⟩
        have K11 := Lib.hid (K3.out.then k11); clear k11
        rcases HR2.out with rfl | rfl | rfl
        · have _m := K3
          go_wp2_with fail
          refine (HBC.out _).mono ?_
          rintro e w12 ⟨rfl, k12⟩
          have K12 := Lib.hid (K11.out.then k12); clear k12
          rcases HR3.out with rfl | rfl | rfl
          · have _m := K3
            go_wp2_with fail
            refine (HAC.out _).mono ?_
            rintro e w13 ⟨rfl, k13⟩
            have K13 := Lib.hid (K12.out.then k13); clear k13
            go_wp2_with fail
            refine (HAB.out _).mono ?_
            rintro e w14 ⟨rfl, k14⟩
            have K14 := Lib.hid (K13.out.then k14); clear k14
            go_wp2_with fail
            go_meet
            exact ⟨rfl, K14⟩
          · have _m := K3
            go_wp2_with fail
            refine (HAC.out _).mono ?_
            rintro e w15 ⟨rfl, k15⟩
            have K15 := Lib.hid (K12.out.then k15); clear k15
            go_wp2_with fail
            refine (HAB.out _).mono ?_
            rintro e w16 ⟨rfl, k16⟩
            have K16 := Lib.hid (K15.out.then k16); clear k16
            go_wp2_with fail
            go_meet
            exact ⟨rfl, K16⟩
          · have h := HT.out (by first | decide | trivial) (by first | decide | trivial)
            exact absurd h (by decide)
        · have _m := K3
          go_wp2_with fail
          refine (HBC.out _).mono ?_
          rintro e w17 ⟨rfl, k17⟩
          have K17 := Lib.hid (K11.out.then k17); clear k17
          rcases HR3.out with rfl | rfl | rfl
          · have _m := K3
            go_wp2_with fail
            refine (HAC.out _).mono ?_
            rintro e w18 ⟨rfl, k18⟩
            have K18 := Lib.hid (K17.out.then k18); clear k18
            go_wp2_with fail
            refine (HAB.out _).mono ?_
            rintro e w19 ⟨rfl, k19⟩
            have K19 := Lib.hid (K18.out.then k19); clear k19
            go_wp2_with fail
            go_meet
            exact ⟨rfl, K19⟩
          · have _m := K3
            go_wp2_with fail
            refine (HAC.out _).mono ?_
            rintro e w20 ⟨rfl, k20⟩
            have K20 := Lib.hid (K17.out.then k20); clear k20
            go_wp2_with fail
            refine (HAB.out _).mono ?_
            rintro e w21 ⟨rfl, k21⟩
            have K21 := Lib.hid (K20.out.then k21); clear k21
            go_wp2_with fail
            go_meet
            exact ⟨rfl, K21⟩
          · have h := HT.out (by first | decide | trivial) (by first | decide | trivial)
            exact absurd h (by decide)
        · have _m := K3
          go_wp2_with fail
          refine (HBC.out _).mono ?_
          rintro e w22 ⟨rfl, k22⟩
          have K22 := Lib.hid (K11.out.then k22); clear k22
          go_wp2_with fail
          refine (HAB.out _).mono ?_
          rintro e w23 ⟨rfl, k23⟩
          have K23 := Lib.hid (K22.out.then k23); clear k23
          go_wp2_with fail
          go_meet
          exact ⟨rfl, K23⟩
      · have _m := K3
        go_wp2_with fail
        refine (HAB.out _).mono ?_
        rintro e w24 ⟨rfl, k24⟩
        have K24 := Lib.hid (K3.out.then k24); clear k24
        rcases HR2.out with rfl | rfl | rfl
        · have _m := K3
          go_wp2_with fail
          refine (HBC.out _).mono ?_
          rintro e w25 ⟨rfl, k25⟩
          have K25 := Lib.hid (K24.out.then k25); clear k25
          rcases HR3.out with rfl | rfl | rfl
          · have _m := K3
            go_wp2_with fail
            refine (HAC.out _).mono ?_
            rintro e w26 ⟨rfl, k26⟩
            have K26 := Lib.hid (K25.out.then k26); clear k26
            obtain rfl := HS.out (by first | rfl | trivial)
            go_wp2_with fail
            refine (HAB.out _).mono ?_
            rintro e w27 ⟨rfl, k27⟩
            have K27 := Lib.hid (K26.out.then k27); clear k27
            go_wp2_with fail
            go_meet
            exact ⟨rfl, K27⟩
          · have _m := K3
            go_wp2_with fail
            refine (HAC.out _).mono ?_
            rintro e w28 ⟨rfl, k28⟩
            have K28 := Lib.hid (K25.out.then k28); clear k28
            obtain rfl := HS.out (by first | rfl | trivial)
            go_wp2_with fail
            refine (HAB.out _).mono ?_
            rintro e w29 ⟨rfl, k29⟩
            have K29 := Lib.hid (K28.out.then k29); clear k29
            go_wp2_with fail
            go_meet
            exact ⟨rfl, K29⟩
          · have h := HT.out (by first | decide | trivial) (by first | decide | trivial)
            exact absurd h (by decide)
        · have _m := K3
          go_wp2_with fail
          refine (HBC.out _).mono ?_
          rintro e w30 ⟨rfl, k30⟩
          have K30 := Lib.hid (K24.out.then k30); clear k30
          rcases HR3.out with rfl | rfl | rfl
          · have _m := K3
            go_wp2_with fail
            refine (HAC.out _).mono ?_
            rintro e w31 ⟨rfl, k31⟩
            have K31 := Lib.hid (K30.out.then k31); clear k31
            obtain rfl := HS.out (by first | rfl | trivial)
            go_wp2_with fail
            refine (HAB.out _).mono ?_
            rintro e w32 ⟨rfl, k32⟩
            have K32 := Lib.hid (K31.out.then k32); clear k32
            go_wp2_with fail
            go_meet
            exact ⟨rfl, K32⟩
          · have _m := K3
            go_wp2_with fail
            refine (HAC.out _).mono ?_
            rintro e w33 ⟨rfl, k33⟩
            have K33 := Lib.hid (K30.out.then k33); clear k33
            obtain rfl := HS.out (by first | rfl | trivial)
            go_wp2_with fail
            refine (HAB.out _).mono ?_
            rintro e w34 ⟨rfl, k34⟩
            have K34 := Lib.hid (K33.out.then k34); clear k34
            go_wp2_with fail
            go_meet
            exact ⟨rfl, K34⟩
          · have h := HT.out (by first | decide | trivial) (by first | decide | trivial)
            exact absurd h (by decide)
        · have _m := K3
          go_wp2_with fail
          refine (HBC.out _).mono ?_
          rintro e w35 ⟨rfl, k35⟩
          have K35 := Lib.hid (K24.out.then k35); clear k35
          obtain rfl := HS.out (by first | rfl | trivial)
          go_wp2_with fail
          refine (HAB.out _).mono ?_
          rintro e w36 ⟨rfl, k36⟩
          have K36 := Lib.hid (K35.out.then k36); clear k36
          go_wp2_with fail
          go_meet
          exact ⟨rfl, K36⟩
      · have _m := K3
        go_wp2_with fail
        refine (HAB.out _).mono ?_
        rintro e w37 ⟨rfl, k37⟩
        have K37 := Lib.hid (K3.out.then k37); clear k37
        go_wp2_with fail
        refine (HAB.out _).mono ?_
        rintro e w38 ⟨rfl, k38⟩
        have K38 := Lib.hid (K37.out.then k38); clear k38
        go_wp2_with fail
        go_meet
        exact ⟨rfl, K38⟩
    case rest =>
      obtain ⟨rfl, K4⟩ := hcut
      go_upto_region 6 with (fail)
      go_cut [54] from 19 to 54 (fun v wx => v = .bool false ∧ Hid (Kept (fun _ => False) wA wx))
      case first =>
        cases wba with
        | false =>
          go_wp2_with fail
          refine (HWBA.out _).mono ?_
          rintro e w39 ⟨rfl, k39⟩
          have K39 := Lib.hid (K4.out.then k39); clear k39
          go_wp2_with fail
          go_meet
          exact ⟨rfl, K39⟩
        | true =>
          go_wp2_with fail
          refine (HWBA.out _).mono ?_
          rintro e w40 ⟨rfl, k40⟩
          have K40 := Lib.hid (K4.out.then k40); clear k40
          rcases HR1.out with rfl | rfl | rfl
          · have _m := K4
            go_wp2_with fail
            refine (HAB.out _).mono ?_
            rintro e w41 ⟨rfl, k41⟩
            have K41 := Lib.hid (K40.out.then k41); clear k41
            go_wp2_with fail
            go_meet
            exact ⟨rfl, K41⟩
          · have _m := K4
            go_wp2_with fail
            refine (HAB.out _).mono ?_
            rintro e w42 ⟨rfl, k42⟩
            have K42 := Lib.hid (K40.out.then k42); clear k42
            go_wp2_with fail
            go_meet
            exact ⟨rfl, K42⟩
          · have h := HU.out (by first | rfl | trivial)
            exact absurd h (by decide)
      case rest =>
        obtain ⟨rfl, K5⟩ := hcut
        go_upto_region 8 with (fail)
        go_cut [75] from 19 to 75 (fun v wx => v = .bool false ∧ Hid (Kept (fun _ => False) wA wx))
        case first =>
          cases wca with
          | false =>
            go_wp2_with fail
            refine (HWCA.out _).mono ?_
            rintro e w43 ⟨rfl, k43⟩
            have K43 := Lib.hid (K5.out.then k43); clear k43
            go_wp2_with fail
            go_meet
            exact ⟨rfl, K43⟩
          | true =>
            go_wp2_with fail
            refine (HWCA.out _).mono ?_
            rintro e w44 ⟨rfl, k44⟩
            have K44 := Lib.hid (K5.out.then k44); clear k44
            rcases HR1.out with rfl | rfl | rfl
            · have _m := K5
              go_wp2_with fail
              refine (HAB.out _).mono ?_
              rintro e w45 ⟨rfl, k45⟩
              have K45 := Lib.hid (K44.out.then k45); clear k45
              rcases HR2.out with rfl | rfl | rfl
              · have _m := K5
                go_wp2_with fail
                refine (HBC.out _).mono ?_
                rintro e w46 ⟨rfl, k46⟩
                have K46 := Lib.hid (K45.out.then k46); clear k46
                obtain rfl := HMD.out (by first | rfl | trivial) (by first | decide | trivial) (by first | decide | trivial)
                go_wp2_with fail
                refine (HWBA.out _).mono ?_
                rintro e w47 ⟨rfl, k47⟩
                have K47 := Lib.hid (K46.out.then k47); clear k47
                go_wp2_with fail
                go_meet
                exact ⟨rfl, K47⟩
              · have _m := K5
                go_wp2_with fail
                refine (HBC.out _).mono ?_
                rintro e w48 ⟨rfl, k48⟩
                have K48 := Lib.hid (K45.out.then k48); clear k48
                obtain rfl := HMD.out (by first | rfl | trivial) (by first | decide | trivial) (by first | decide | trivial)
                go_wp2_with fail
                refine (HWBA.out _).mono ?_
                rintro e w49 ⟨rfl, k49⟩
                have K49 := Lib.hid (K48.out.then k49); clear k49
                go_wp2_with fail
                go_meet
                exact ⟨rfl, K49⟩
              · have _m := K5
                go_wp2_with fail
                refine (HBC.out _).mono ?_
                rintro e w50 ⟨rfl, k50⟩
                have K50 := Lib.hid (K45.out.then k50); clear k50
                go_wp2_with fail
                go_meet
                exact ⟨rfl, K50⟩
            · have _m := K5
              go_wp2_with fail
              refine (HAB.out _).mono ?_
              rintro e w51 ⟨rfl, k51⟩
              have K51 := Lib.hid (K44.out.then k51); clear k51
              rcases HR2.out with rfl | rfl | rfl
              · have _m := K5
                go_wp2_with fail
                refine (HBC.out _).mono ?_
                rintro e w52 ⟨rfl, k52⟩
                have K52 := Lib.hid (K51.out.then k52); clear k52
                obtain rfl := HMD.out (by first | rfl | trivial) (by first | decide | trivial) (by first | decide | trivial)
                go_wp2_with fail
                refine (HWBA.out _).mono ?_
                rintro e w53 ⟨rfl, k53⟩
                have K53 := Lib.hid (K52.out.then k53); clear k53
                go_wp2_with fail
                go_meet
                exact ⟨rfl, K53⟩
              · have _m := K5
                go_wp2_with fail
                refine (HBC.out _).mono ?_
                rintro e w54 ⟨rfl, k54⟩
                have K54 := Lib.hid (K51.out.then k54); clear k54
                obtain rfl := HMD.out (by first | rfl | trivial) (by first | decide | trivial) (by first | decide | trivial)
                go_wp2_with fail
                refine (HWBA.out _).mono ?_
                rintro e w55 ⟨rfl, k55⟩
                have K55 := Lib.hid (K54.out.then k55); clear k55
                go_wp2_with fail
                go_meet
                exact ⟨rfl, K55⟩
              · have _m := K5
                go_wp2_with fail
                refine (HBC.out _).mono ?_
                rintro e w56 ⟨rfl, k56⟩
                have K56 := Lib.hid (K51.out.then k56); clear k56
                go_wp2_with fail
                go_meet
                exact ⟨rfl, K56⟩
            · have _m := K5
              go_wp2_with fail
              refine (HAB.out _).mono ?_
              rintro e w57 ⟨rfl, k57⟩
              have K57 := Lib.hid (K44.out.then k57); clear k57
              go_wp2_with fail
              go_meet
              exact ⟨rfl, K57⟩
        case rest =>
          obtain ⟨rfl, K6⟩ := hcut
          go_wp2_with fail
          refine (HCO.out _).mono ?_
          rintro e w58 ⟨rfl, k58⟩
          have K58 := Lib.hid (K6.out.then k58); clear k58
          go_wp2_with fail
          refine (HWAD.out _).mono ?_
          rintro e w59 ⟨rfl, k59⟩
          have K59 := Lib.hid (K58.out.then k59); clear k59
          go_wp2_with fail
          refine (HWBD.out _).mono ?_
          rintro e w60 ⟨rfl, k60⟩
          have K60 := Lib.hid (K59.out.then k60); clear k60
          cases wac with
          | false =>
            go_wp2_with fail
            refine (HWAC.out _).mono ?_
            rintro e w61 ⟨rfl, k61⟩
            have K61 := Lib.hid (K60.out.then k61); clear k61
            go_wp2_with fail
            go_ret
            exact ⟨rfl, HKA.out.then K61.out⟩
          | true =>
            go_wp2_with fail
            refine (HWAC.out _).mono ?_
            rintro e w62 ⟨rfl, k62⟩
            have K62 := Lib.hid (K60.out.then k62); clear k62
            cases wbc with
            | false =>
              go_wp2_with fail
              refine (HWBC.out _).mono ?_
              rintro e w63 ⟨rfl, k63⟩
              have K63 := Lib.hid (K62.out.then k63); clear k63
              go_wp2_with fail
              go_ret
              exact ⟨rfl, HKA.out.then K63.out⟩
            | true =>
              go_wp2_with fail
              refine (HWBC.out _).mono ?_
              rintro e w64 ⟨rfl, k64⟩
              have K64 := Lib.hid (K62.out.then k64); clear k64
              obtain rfl := HL.out (by first | rfl | trivial) (by first | rfl | trivial)
              go_wp2_with fail
              refine (HWDC.out _).mono ?_
              rintro e w65 ⟨rfl, k65⟩
              have K65 := Lib.hid (K64.out.then k65); clear k65
              go_wp2_with fail
              go_ret
              exact ⟨rfl, HKA.out.then K65.out⟩
end Go.Proofs.YtbmkfacmbjnkaaaDoor
