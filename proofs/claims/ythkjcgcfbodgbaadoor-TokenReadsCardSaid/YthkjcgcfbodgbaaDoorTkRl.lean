/-
  arbaclaw15.TokenReads returns true.
-/
import Derived.Test.YthkjcgcfbodgbaaDoorTkOp
import Derived.Test.YthkjcgcfbodgbaaDoorTkV
import Derived.Deep.RegionWith
import Derived.Deep.CutRange
namespace Go.Proofs.YthkjcgcfbodgbaaDoor
open Go.RowKit Go.Shelf
set_option linter.unusedSimpArgs false
set_option linter.unusedVariables false

theorem scanF_len (L : List Nat) : ∀ f i, (scanF L f i).1.length ≤ f
  | 0, i => by simp [scanF]
  | f + 1, i => by
    rw [scanF]
    split
    · split
      · simp
      · have := scanF_len L f (skipT L (i + (firstT (L.drop i)).2.1))
        simp only [List.length_cons]; omega
    · simp
theorem scanS_len (s : ByteArray) : (scanS s).1.length ≤ s.size + 2 := by
  unfold scanS
  split
  · simp
  · split
    · simp
    · have := scanF_len (strB s) (s.size + 1) (skipT (strB s) 0)
      simp only [List.length_append, List.length_map, List.length_cons, List.length_nil]
      unfold scanL; omega

/-- The two readers that were laid for the same tokens, in either order. -/
theorem two_new {w a b c : World} {g h : Nat} {gv hv : Value} {l : List Tok} (hk : ∀ i, i < l.length → (l.getD i tok0).k < 256) (k1 : Kept (fun _ => False) w a) (h1 : RdP b g gv l ⟨0, 0, 0⟩) (hg : a.heap.size ≤ g) (hgv : ∀ k, gv.ownBlock = some k → a.heap.size ≤ k) (k2 : Kept (fun _ => False) a b)
    (h2 : RdR c h hv l ⟨0, 0, 0⟩) (hh : b.heap.size ≤ h) (hhv : ∀ k, hv.ownBlock = some k → k < a.heap.size) (k3 : Kept (fun _ => False) b c) :
    Two c g h gv hv l ⟨0, 0, 0⟩ ∧ w.heap.size ≤ g ∧ w.heap.size ≤ h ∧ Kept (fun _ => False) w c := by
  have hlt := h1.lt
  have s1 := k1.size; have s2 := k2.size
  exact ⟨⟨h1.stay k3, h2, by omega, fun k e => by have := h1.row.lt k e; omega, fun k e => by have := hhv k e; omega, hk⟩, by omega, by omega, (k1.then k2).then k3⟩
theorem two_new2 {w a b c : World} {g h : Nat} {gv hv : Value} {l : List Tok} (hk : ∀ i, i < l.length → (l.getD i tok0).k < 256) (k1 : Kept (fun _ => False) w a) (h2 : RdR b h hv l ⟨0, 0, 0⟩) (hh : a.heap.size ≤ h) (hhv : ∀ k, hv.ownBlock = some k → k < a.heap.size) (k2 : Kept (fun _ => False) a b)
    (h1 : RdP c g gv l ⟨0, 0, 0⟩) (hg : b.heap.size ≤ g) (hgv : ∀ k, gv.ownBlock = some k → b.heap.size ≤ k) (k3 : Kept (fun _ => False) b c) :
    Two c g h gv hv l ⟨0, 0, 0⟩ ∧ w.heap.size ≤ g ∧ w.heap.size ≤ h ∧ Kept (fun _ => False) w c := by
  have hlt := h2.lt
  have s1 := k1.size; have s2 := k2.size
  exact ⟨⟨h1, h2.stay k3, by omega, fun k e => by have := hgv k e; omega, fun k e => by have := hhv k e; omega, hk⟩, by omega, by omega, (k1.then k2).then k3⟩

set_option maxRecDepth 100000 in
set_option maxHeartbeats 6400000 in
theorem treads_law (s : ByteArray) (dr : Nat) (oa : Option Addr) (N oc : Nat) (w : World) (hS : Sym w) (hs : s.size ≤ maxLen) (hdr : dr < 256) (ho : CallsL w (.slice oa N oc) N) :
    Calls Tryd.prog 9 #[.string s, .int .u8 (dr : Int), .slice oa N oc] w fun e w' => e = .returned (.bool true) ∧ Kept (fun _ => False) w w' := by
  obtain ⟨_, _, he, hN, hc0⟩ := ho.form
  cases he
  have hc := cutK_size s
  have HS := Lib.hid hS
  have HO := Lib.hid ho
  have HC := Lib.hid (fun W => cutk_any s W hs)
  have hk := kind_at (cutK s)
  have hlen := scanS_len (cutK s)
  generalize cutK s = t at hc HC hk hlen
  have H1 := Lib.hid (fun W hW => tscan_any t W (by omega) hW)
  have H2 := Lib.hid (fun W => rscan_any t W (by omega))
  obtain ⟨R, hR⟩ : ∃ R, R = scanS t := ⟨_, rfl⟩
  simp only [← hR] at H1 H2 hk hlen
  obtain ⟨l, o, b⟩ := R
  simp only at H1 H2 hk hlen
  have HK := Lib.hid hk
  clear hR hS ho hk
  have HAW := Lib.hid (awake15_any w HS.out)
  obtain ⟨d, hd⟩ : ∃ d, d = dr % 4 := ⟨_, rfl⟩
  have hE : (dr : Int).tmod 4 = (d : Int) ∧ (dr : Int) % 4 = (d : Int) ∧ IntKind.i64.wrap (d : Int) = (d : Int) := ⟨by rw [Int.tmod_eq_emod_of_nonneg (by omega)]; omega, by omega, IntWalk.i64_in _ (by omega)⟩
  obtain ⟨e1, e2, e3⟩ := hE
  obtain ⟨L, hL⟩ : ∃ L, L = l.length := ⟨_, rfl⟩
  obtain ⟨n, hn⟩ : ∃ n, n = L - d := ⟨_, rfl⟩
  have hw1 : IntKind.i64.wrap ((L : Int) - (d : Int)) = (L : Int) - (d : Int) := IntWalk.i64_in _ (by omega)
  have hmx : max ((L : Int) - (d : Int)) 0 = (n : Int) := by omega
  have hn0 : (0 : Int) ≤ (n : Int) := by omega
  have hnL : n ≤ l.length := by omega
  have hnL2 : n ≤ 1000000 := by omega
  have HNL := Lib.hid hnL
  obtain ⟨M, hM⟩ : ∃ M, M = min N 40 := ⟨_, rfl⟩
  have hmin : min (N : Int) 40 = (M : Int) := by omega
  have hM0 : (0 : Int) ≤ (M : Int) := by omega
  have hM1 : (M : Int) ≤ (N : Int) := by omega
  have hM2 : (M : Int) ≤ (oc : Int) := by omega
  have hM3 : M ≤ oc := by omega
  have hM4 : M ≤ N := by omega
  have HL := Lib.hid hL
  have hLb : L ≤ 402 := by omega
  have hnl : n ≤ L := by omega
  clear hd hn hM hL hnL hlen hs hdr
  go_enter Tryd.func9, Tryd.ntmps9
  go_wp2_with fail
  refine HAW.out.mono ?_
  rintro e w1 ⟨rfl, k1⟩
  have K1 := Lib.hid k1
  clear k1
  go_wp2_with fail
  refine (HC.out _).mono ?_
  rintro e w2 ⟨rfl, rfl⟩
  go_wp2_with fail
  refine (H1.out _ (HS.out.kept K1.out (fun h => h))).mono ?_
  rintro e w3 ⟨v3, rfl, o3, k3⟩
  have T3 := Lib.hid o3.toks
  have K3 := Lib.hid (K1.out.then k3)
  clear o3 k3
  go_wp2_with fail
  refine (HC.out _).mono ?_
  rintro e w4 ⟨rfl, rfl⟩
  go_wp2_with fail
  refine (H2.out _).mono ?_
  rintro e w4 ⟨v4, rfl, o4, k4⟩
  have T4 := Lib.hid o4.toks
  have T34 := Lib.hid (T3.out.kept k4 (fun _ _ h => h))
  have K4 := Lib.hid (K3.out.then k4)
  clear o4 k4
  go_wp2_with fail
  refine (same_any v3 v4 l w4 T34.out T4.out HK.out).mono ?_
  rintro e w5 ⟨rfl, k5⟩
  have T5a := Lib.hid (T34.out.kept k5 (fun _ _ h => h))
  have T5b := Lib.hid (T4.out.kept k5 (fun _ _ h => h))
  have K5 := Lib.hid (K4.out.then k5)
  clear k5 T3 T34 T4 K1 K3 K4
  obtain ⟨a3, c3, rfl, z3, _⟩ := T5a.out.form
  obtain ⟨a4, c4, rfl, z4, _⟩ := T5b.out.form
  rw [← HL.out] at T5a T5b z3 z4 ⊢
  have n3 : (n : Int) ≤ (c3 : Int) := by omega
  have n4 : (n : Int) ≤ (c4 : Int) := by omega
  have n5 : n ≤ c3 := by omega
  have n6 : n ≤ c4 := by omega
  have C5a := Lib.hid (T5a.out.cut n HNL.out)
  have C5b := Lib.hid (T5b.out.cut n HNL.out)
  have hlt : Hid ((l.take n).length = n) := by
    have := HNL.out
    show _ = _
    rw [List.length_take]; omega
  have HKT : Hid (∀ i, i < (l.take n).length → ((l.take n).getD i tok0).k < 256) := fun i hi => by
    have h2 := hlt.out
    rw [h2] at hi
    have e : (l.take n).getD i tok0 = l.getD i tok0 := by simp [List.getD, List.getElem?_take_of_lt hi]
    rw [e]
    exact HK.out i (by have := HNL.out; omega)
  generalize l.take n = lt at C5a C5b hlt HKT
  have HNR : Hid (∀ W, Kept (fun _ => False) w5 W → Calls Tryd.prog 27 #[.slice a3 n c3] W fun e w' => ∃ g lv, e = .returned (.pointer (some ⟨g, 0, none⟩)) ∧ RdP w' g lv lt ⟨0, 0, 0⟩ ∧ W.heap.size ≤ g ∧ (∀ k, lv.ownBlock = some k → W.heap.size ≤ k) ∧ Kept (fun _ => False) W w') := fun W hW => newRd_any _ lt W (C5a.out.kept hW (fun _ _ h => h)) (by rw [hlt.out]; omega)
  have HRR : Hid (∀ W, Kept (fun _ => False) w5 W → RdR (W.alloc (.cells #[.slice a4 n c4, .int .i64 0, .int .i64 0, .int .i64 0] 68)) W.heap.size (.slice a4 n c4) lt ⟨0, 0, 0⟩) := fun W hW => rdr_new (C5b.out.kept hW (fun _ _ h => h)) (by rw [hlt.out]; omega)
  have HBL : Hid (∀ k, (Value.slice a4 n c4).ownBlock = some k → k < w5.heap.size) := C5b.out.lt
  clear H1 H2 HC HAW T5a T5b C5a C5b HK HL
  go_wp2_with fail
  go_cut [14, 15] from 14 to 60 (fun gp hp wx => ∃ g h ga ha, gp = .pointer (some ⟨g, 0, none⟩) ∧ hp = .pointer (some ⟨h, 0, none⟩) ∧ Hid (Two wx g h ga ha lt ⟨0, 0, 0⟩ ∧ w.heap.size ≤ g ∧ w.heap.size ≤ h ∧ Kept (fun _ => False) w wx))
  case first =>
    have D5 := Lib.hid ((Kept.refl (fun _ => False) w5).drew)
    go_region_with ((go_at_call 27; (first | with_reducible refine (HNR.out _ D5.out).mono ?_ | with_reducible refine (HNR.out _ ((Kept.alloc (fun _ => False) w5 _).drew)).mono ?_); rintro e w6 ⟨g, lv, rfl, h6⟩; have H6 := Lib.hid h6; clear h6))
    all_goals
      go_wp2_with fail
      go_meet
      first
        | exact ⟨g, _, lv, _, rfl, rfl, two_new HKT.out K5.out.drew H6.out.1 H6.out.2.1 H6.out.2.2.1 H6.out.2.2.2 (HRR.out _ (D5.out.then H6.out.2.2.2)) (Nat.le_refl _) HBL.out (Kept.alloc _ _ _)⟩
        | exact ⟨g, _, lv, _, rfl, rfl, two_new2 HKT.out K5.out ((HRR.out w5 (Kept.refl _ _)).stay ((Kept.refl _ _).drew)) (Nat.le_refl _) HBL.out ((Kept.alloc (fun _ => False) w5 _).drew) H6.out.1 H6.out.2.1 H6.out.2.2.1 H6.out.2.2.2⟩
  case rest =>
    obtain ⟨g, h, ga, ha, rfl, rfl, hcc⟩ := hcut
    have TW := Lib.hid hcc.out.1
    have KC := Lib.hid hcc.out.2.2.2
    have hgw := hcc.out.2.1
    have hhw := hcc.out.2.2.1
    clear hcc HNR HRR HBL HKT hlt K5 HNL
    go_wp2_with fail
    go_loopw [67] (fun iv wr => ∃ k : Nat, k ≤ M ∧ iv = .int .i64 k ∧ Hid ((∃ r, Two wr g h ga ha lt r) ∧ Kept (fun _ => False) w wr)) (fun iv _ => M - (intOf iv).toNat)
    case atStart => exact ⟨0, by omega, rfl, ⟨⟨_, TW.out⟩, KC.out⟩⟩
    case round =>
      obtain ⟨k, hk, rfl, hex⟩ := hrel
      obtain ⟨⟨r, htw⟩, hkw⟩ := hex.out
      have HT := Lib.hid htw; have HKW := Lib.hid hkw
      clear hex TW KC
      have l0 : (0 : Int) ≤ (k : Int) := by omega
      by_cases hlt : k < M
      · have l1 : (k : Int) < (M : Int) := by omega
        obtain ⟨og, off, kd, tx, lo, hi, rfl, c0, c1, c2, c3, hkd, htx⟩ := (HO.out.kept hkw).at (k := k) (by omega)
        have hka := Kept.alloc (fun _ => False) wr (.cells #[.int .u8 (kd : Int), .int .u8 (tx : Int), .int .i64 lo, .int .i64 hi] 60)
        have HCA := Lib.hid (call15_any g h ga ha lt r kd tx lo hi _ (htw.stay hka) hkd htx)
        have HKA := Lib.hid (hkw.then hka)
        clear htw hkw hka hkd htx HT HKW
        go_wp2_with fail
        refine HCA.out.mono ?_
        rintro e w6 ⟨rfl, ⟨r2, t6⟩, k6⟩
        have T6 := Lib.hid t6
        have K6 := Lib.hid (HKA.out.trans k6 (T := fun _ => False) (fun _ _ e => e) (fun i hi e => by rcases e with e | e <;> omega))
        clear t6 k6 HCA HKA c0 c1 c2 c3
        go_wp2_with fail
        refine (T6.out.a.errs).mono ?_
        rintro e w7 ⟨rfl, k7⟩
        have t7 := T6.out.stay k7
        have HE : Hid ((∃ r, Two w7 g h ga ha lt r) ∧ Kept (fun _ => False) w w7) := ⟨⟨_, t7⟩, K6.out.then k7⟩
        obtain ⟨d0, d1, d2, d3, _, _, _, dl, _, _, _, _⟩ := t7.b
        clear t7 k7 T6 K6
        obtain ⟨nx, er, of⟩ := r2
        simp only at d1 d2 d3
        go_wp2_with fail
        go_roundw
        case rel => first | exact ⟨k + 1, by omega, by go_num, HE⟩ | ((repeat apply Exists.intro); exact ⟨⟨k + 1, by omega, by go_num, HE⟩, rfl⟩)
        case measure => simp [intOf]; omega
      · have l1 : ¬ (k : Int) < (M : Int) := by omega
        obtain ⟨p, hp⟩ : ∃ p, p = peekS lt r := ⟨_, rfl⟩
        have hpk := htw.peekK
        have HPA := Lib.hid htw.a.peek
        have HPB := Lib.hid (fun (W : World) (k : Kept (fun _ => False) wr W) => (htw.stay k).b.peek)
        simp only [← hp] at hpk HPA HPB
        have HTO := Lib.hid (fun W => told_any p hpk W)
        clear hp hpk htw hkw
        obtain ⟨pk, pt, pn, pi⟩ := p
        unfold tkV at HPA HPB HTO
        simp only at HPA HPB HTO
        go_wp2_with fail
        refine HPA.out.mono ?_
        rintro e w6 ⟨rfl, k6⟩
        have K6 := Lib.hid k6; clear k6
        go_wp2_with fail
        refine (HTO.out _).mono ?_
        rintro e w7 ⟨rfl, k7⟩
        have K7 := Lib.hid (K6.out.then k7); clear k7
        go_wp2_with fail
        refine (HPB.out _ K7.out).mono ?_
        rintro e w8 ⟨rfl, k8⟩
        have K8 := Lib.hid (HKW.out.then (K7.out.then k8)); clear k8
        go_wp2_with fail
        go_ret
        exact ⟨rfl, K8.out⟩
end Go.Proofs.YthkjcgcfbodgbaaDoor
