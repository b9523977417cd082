/-
  Tokens: a call of both readers (arbaclaw15.call).
-/
import Derived.Test.YthkjcgcfbodgbaaDoorTkZ
import Derived.Test.YthkjcgcfbodgbaaDoorTkT
import Derived.Deep.RegionHeld3
namespace Go.Proofs.YthkjcgcfbodgbaaDoor
open Go.RowKit Go.Shelf
set_option linter.unusedSimpArgs false
set_option linter.unusedVariables false

def textL : List ByteArray := [⟨#[98, 121]⟩, ⟨#[110, 111, 116]⟩, ⟨#[59]⟩, ⟨#[45, 62]⟩, ⟨#[44]⟩, ⟨#[114, 49]⟩, ⟨#[51, 48]⟩, ⟨#[]⟩]
set_option maxRecDepth 100000 in
set_option maxHeartbeats 800000 in
theorem texts_any (n : Nat) (w : World) (hn : n < 256) : Calls Tryd.prog 30 #[.int .u8 n] w fun e w' => ∃ x, e = .returned (.string x) ∧ Kept (fun _ => False) w w' := by
  have hk := Kept.alloc (fun _ => False) w (.cells (textL.map Value.string).toArray 9)
  have hwl : textL.length = 8 := rfl
  obtain ⟨r, hr⟩ : ∃ r, r = n % 8 := ⟨_, rfl⟩
  have hr20 : r < 8 := by omega
  obtain ⟨x, hx⟩ : ∃ x, x = textL.getD r ⟨#[]⟩ := ⟨_, rfl⟩
  have hli : ∀ p : r < (textL.map Value.string).length, (textL.map Value.string)[r]'p = .string x := fun p => by
    have hr2 : r < textL.length := by rw [hwl]; exact hr20
    rw [List.getElem_map, hx]
    simp [List.getD, hr2]
  have HK := Lib.hid hk; have HLI := Lib.hid hli
  have hE : IntKind.i64.wrap (n : Int) = (n : Int) ∧ (n : Int).tmod 8 = (r : Int) ∧ (n : Int) % 8 = (r : Int) := ⟨IntWalk.i64_in _ (by omega), by rw [Int.tmod_eq_emod_of_nonneg (by omega)]; omega, by omega⟩
  have l0 : (0 : Int) ≤ (r : Int) := by omega
  have l1 : (r : Int) < 8 := by omega
  clear hk hwl hr hx hli
  obtain ⟨e1, e2, e3⟩ := hE
  go_enter Tryd.func30, Tryd.ntmps30
  go_wp2_with fail
  go_ret
  exact ⟨x, congrArg Ending.returned (HLI.out _), HK.out⟩

/-- The program's and the reference's reader, at the same place of the same tokens. -/
structure Two (w : World) (g h : Nat) (gv hv : Value) (l : List Tok) (r : RS) : Prop where
  a : RdP w g gv l r
  b : RdR w h hv l r
  gh : g ≠ h
  gb : ∀ k, gv.ownBlock = some k → k ≠ h
  hb : ∀ k, hv.ownBlock = some k → k ≠ g
  kind : ∀ i, i < l.length → (l.getD i tok0).k < 256
theorem Two.stay {w c : World} {g h : Nat} {gv hv : Value} {l : List Tok} {r : RS} (T : Two w g h gv hv l r) (k : Kept (fun _ => False) w c) : Two c g h gv hv l r := ⟨T.a.stay k, T.b.stay k, T.gh, T.gb, T.hb, T.kind⟩
theorem Two.refAt {w a b : World} {g h : Nat} {gv hv : Value} {l : List Tok} {r : RS} (T : Two w g h gv hv l r) (ka : Kept (fun k => k = g) w a) (kb : Kept (fun _ => False) a b) : RdR b h hv l r :=
  (T.b.kept ka (fun e => T.gh e.symm) T.hb).stay kb
theorem Two.mix {w a b c : World} {g h : Nat} {gv hv : Value} {l : List Tok} {r r1 : RS} (T : Two w g h gv hv l r) (ha : RdP a g gv l r1) (ka : Kept (fun k => k = g) w a) (kb : Kept (fun _ => False) a b) (hc : RdR c h hv l r1) (kc : Kept (fun k => k = h) b c) :
    Two c g h gv hv l r1 ∧ Kept (fun k => k = g ∨ k = h) w c :=
  ⟨⟨(ha.stay kb).kept kc T.gh T.gb, hc, T.gh, T.gb, T.hb, T.kind⟩, (ka.trans kb (T := fun k => k = g ∨ k = h) (fun _ _ e => Or.inl e) (fun _ _ e => e.elim)).trans kc (fun _ _ e => e) (fun _ _ e => Or.inr e)⟩
theorem Two.peekK {w : World} {g h : Nat} {gv hv : Value} {l : List Tok} {r : RS} (T : Two w g h gv hv l r) : (peekS l r).k < 256 := by
  unfold peekS
  split
  · rename_i h
    exact T.kind _ h.2
  · exact Nat.zero_lt_succ 255

set_option maxRecDepth 100000 in
set_option maxHeartbeats 6400000 in
theorem call15_any (g h : Nat) (gv hv : Value) (l : List Tok) (r : RS) (kd tx : Nat) (lo hi : Int) (w : World) (T : Two w g h gv hv l r) (hkd : kd < 256) (htx : tx < 256) :
    Calls Tryd.prog 38 #[.pointer (some ⟨g, 0, none⟩), .pointer (some ⟨h, 0, none⟩), .agg #[.int .u8 (kd : Int), .int .u8 (tx : Int), .int .i64 lo, .int .i64 hi]] w fun e w' => e = .returned (.bool true) ∧ (∃ r', Two w' g h gv hv l r') ∧ Kept (fun k => k = g ∨ k = h) w w' := by
  have hk0 := Kept.alloc (fun _ => False) w (.cells #[.int .u8 (kd : Int), .int .u8 (tx : Int), .int .i64 lo, .int .i64 hi] 60)
  have HT := Lib.hid T
  have HK0 := Lib.hid hk0
  have HTX := Lib.hid (fun W => texts_any tx W htx)
  have hlg := T.a.lt
  have hlh := T.b.lt
  have HPK := Lib.hid T.peekK
  clear hk0 T
  have hms : kd % 8 = 0 ∨ kd % 8 = 1 ∨ kd % 8 = 2 ∨ kd % 8 = 3 ∨ kd % 8 = 4 ∨ kd % 8 = 5 ∨ kd % 8 = 6 ∨ kd % 8 = 7 := by omega
  have hfin : Hid (∀ (w2 : World), Kept (fun _ => False) (w.alloc (.cells #[.int .u8 (kd : Int), .int .u8 (tx : Int), .int .i64 lo, .int .i64 hi] 60)) w2 → Two w2 g h gv hv l r ∧ Kept (fun k => k = g ∨ k = h) w w2) := fun w2 k2 => ⟨HT.out.stay (HK0.out.then k2), (HK0.out.then k2).mono (fun _ _ e => e.elim)⟩
  clear HT HK0
  rcases hms with hm | hm | hm | hm | hm | hm | hm | hm
  · obtain ⟨p, hp⟩ : ∃ p, p = peekS l r := ⟨_, rfl⟩
    have hpk := HPK.out
    have HPA := Lib.hid (fun (W : World) (T : Two W g h gv hv l r) => T.a.peek)
    have HPB := Lib.hid (fun (W : World) (T : RdR W h hv l r) => T.peek)
    simp only [← hp] at hpk HPA HPB
    have HTO := Lib.hid (fun W => told_any p hpk W)
    clear hp hpk
    obtain ⟨pk, pt, pn, pi⟩ := p
    unfold tkV at HPA HPB HTO
    simp only at HPA HPB HTO
    have em : (kd : Int).tmod 8 = 0 ∧ (kd : Int) % 8 = 0 := ⟨by rw [Int.tmod_eq_emod_of_nonneg (by omega)]; omega, by omega⟩
    obtain ⟨em1, em2⟩ := em
    clear hm
    go_enter Tryd.func38, Tryd.ntmps38
    go_wp2_with fail
    refine (HTX.out _).mono ?_
    rintro e w2 ⟨s, rfl, k2⟩
    obtain ⟨c0, c1, c2, c3, _, _, _, _, hbl⟩ := box4 k2
    obtain ⟨t2, kw2⟩ := hfin.out w2 k2
    have T2 := Lib.hid t2; have KW2 := Lib.hid kw2
    clear k2 t2 kw2 HTX
    go_wp2_with fail
    refine (HPA.out _ T2.out).mono ?_
    rintro e w3 ⟨rfl, k3⟩
    have K3 := Lib.hid k3; clear k3
    go_wp2_with fail
    refine (HTO.out _).mono ?_
    rintro e w4 ⟨rfl, k4⟩
    have K4 := Lib.hid (K3.out.then k4); clear k4
    go_wp2_with fail
    refine (HPB.out _ (T2.out.b.stay K4.out)).mono ?_
    rintro e w5 ⟨rfl, k5⟩
    have HE : Hid (Two w5 g h gv hv l r ∧ Kept (fun k => k = g ∨ k = h) w2 w5) := ⟨T2.out.stay (K4.out.then k5), (K4.out.then k5).mono (fun _ _ e => e.elim)⟩
    clear k5
    go_wp2_with fail
    go_ret
    exact ⟨rfl, ⟨_, HE.out.1⟩, KW2.out.trans HE.out.2 (fun _ _ e => e) (fun _ _ e => e)⟩
  · obtain ⟨p, hp⟩ : ∃ p, p = peekS l r := ⟨_, rfl⟩
    have hpk := HPK.out
    have HPA := Lib.hid (fun (W : World) (T : Two W g h gv hv l r) => T.a.next)
    have HPB := Lib.hid (fun (W : World) (T : RdR W h hv l r) => T.next)
    simp only [← hp] at hpk HPA HPB
    have HTO := Lib.hid (fun W => told_any p hpk W)
    clear hp hpk
    obtain ⟨pk, pt, pn, pi⟩ := p
    unfold tkV at HPA HPB HTO
    simp only at HPA HPB HTO
    have em : (kd : Int).tmod 8 = 1 ∧ (kd : Int) % 8 = 1 := ⟨by rw [Int.tmod_eq_emod_of_nonneg (by omega)]; omega, by omega⟩
    obtain ⟨em1, em2⟩ := em
    clear hm
    go_enter Tryd.func38, Tryd.ntmps38
    go_wp2_with fail
    refine (HTX.out _).mono ?_
    rintro e w2 ⟨s, rfl, k2⟩
    obtain ⟨c0, c1, c2, c3, _, _, _, _, hbl⟩ := box4 k2
    obtain ⟨t2, kw2⟩ := hfin.out w2 k2
    have T2 := Lib.hid t2; have KW2 := Lib.hid kw2
    clear k2 t2 kw2 HTX
    go_wp2_with fail
    refine (HPA.out _ T2.out).mono ?_
    rintro e w3 ⟨rfl, h3, k3⟩
    have H3 := Lib.hid h3; have K3 := Lib.hid k3; clear h3 k3
    go_wp2_with fail
    refine (HTO.out _).mono ?_
    rintro e w4 ⟨rfl, k4⟩
    have K4 := Lib.hid k4; clear k4
    go_wp2_with fail
    refine (HPB.out _ (T2.out.refAt K3.out K4.out)).mono ?_
    rintro e w5 ⟨rfl, h5, k5⟩
    have HE := Lib.hid (T2.out.mix H3.out K3.out K4.out h5 k5)
    clear h5 k5
    go_wp2_with fail
    go_ret
    exact ⟨rfl, ⟨_, HE.out.1⟩, KW2.out.trans HE.out.2 (fun _ _ e => e) (fun _ _ e => e)⟩
  · have em : (kd : Int).tmod 8 = 2 ∧ (kd : Int) % 8 = 2 := ⟨by rw [Int.tmod_eq_emod_of_nonneg (by omega)]; omega, by omega⟩
    obtain ⟨em1, em2⟩ := em
    clear hm
    go_enter Tryd.func38, Tryd.ntmps38
    go_wp2_with fail
    refine (HTX.out _).mono ?_
    rintro e w2 ⟨s, rfl, k2⟩
    obtain ⟨c0, c1, c2, c3, _, _, _, _, hbl⟩ := box4 k2
    obtain ⟨t2, kw2⟩ := hfin.out w2 k2
    have T2 := Lib.hid t2; have KW2 := Lib.hid kw2
    clear k2 t2 kw2 HTX
    go_wp2_with fail
    refine (T2.out.a.is s).mono ?_
    rintro e w3 ⟨rfl, k3⟩
    have K3 := Lib.hid k3; clear k3
    go_wp2_with fail
    refine ((T2.out.b.stay K3.out).is s).mono ?_
    rintro e w5 ⟨rfl, k5⟩
    have HE : Hid (Two w5 g h gv hv l r ∧ Kept (fun k => k = g ∨ k = h) w2 w5) := ⟨T2.out.stay (K3.out.then k5), (K3.out.then k5).mono (fun _ _ e => e.elim)⟩
    clear k5
    generalize isS l r s = b
    go_wp2_with fail
    go_ret
    exact ⟨rfl, ⟨_, HE.out.1⟩, KW2.out.trans HE.out.2 (fun _ _ e => e) (fun _ _ e => e)⟩
  · have em : (kd : Int).tmod 8 = 3 ∧ (kd : Int) % 8 = 3 := ⟨by rw [Int.tmod_eq_emod_of_nonneg (by omega)]; omega, by omega⟩
    obtain ⟨em1, em2⟩ := em
    clear hm
    go_enter Tryd.func38, Tryd.ntmps38
    go_wp2_with fail
    refine (HTX.out _).mono ?_
    rintro e w2 ⟨s, rfl, k2⟩
    obtain ⟨c0, c1, c2, c3, _, _, _, _, hbl⟩ := box4 k2
    obtain ⟨t2, kw2⟩ := hfin.out w2 k2
    have T2 := Lib.hid t2; have KW2 := Lib.hid kw2
    clear k2 t2 kw2 HTX
    go_wp2_with fail
    refine (T2.out.a.accept s).mono ?_
    rintro e w3 ⟨rfl, h3, k3⟩
    have H3 := Lib.hid h3; have K3 := Lib.hid k3; clear h3 k3
    go_wp2_with fail
    refine ((T2.out.refAt K3.out (Kept.refl _ _)).accept s).mono ?_
    rintro e w5 ⟨rfl, h5, k5⟩
    have HE := Lib.hid (T2.out.mix H3.out K3.out (Kept.refl _ _) h5 k5)
    clear h5 k5
    generalize isS l r s = b
    go_wp2_with fail
    go_ret
    exact ⟨rfl, ⟨_, HE.out.1⟩, KW2.out.trans HE.out.2 (fun _ _ e => e) (fun _ _ e => e)⟩
  · have em : (kd : Int).tmod 8 = 4 ∧ (kd : Int) % 8 = 4 := ⟨by rw [Int.tmod_eq_emod_of_nonneg (by omega)]; omega, by omega⟩
    obtain ⟨em1, em2⟩ := em
    clear hm
    go_enter Tryd.func38, Tryd.ntmps38
    go_wp2_with fail
    refine (HTX.out _).mono ?_
    rintro e w2 ⟨s, rfl, k2⟩
    obtain ⟨c0, c1, c2, c3, _, _, _, _, hbl⟩ := box4 k2
    obtain ⟨t2, kw2⟩ := hfin.out w2 k2
    have T2 := Lib.hid t2; have KW2 := Lib.hid kw2
    clear k2 t2 kw2 HTX
    go_wp2_with fail
    refine (T2.out.a.expect s).mono ?_
    rintro e w3 ⟨rfl, h3, k3⟩
    have H3 := Lib.hid h3; have K3 := Lib.hid k3; clear h3 k3
    go_wp2_with fail
    refine ((T2.out.refAt K3.out (Kept.refl _ _)).expect s).mono ?_
    rintro e w5 ⟨rfl, h5, k5⟩
    have HE := Lib.hid (T2.out.mix H3.out K3.out (Kept.refl _ _) h5 k5)
    clear h5 k5
    go_wp2_with fail
    go_ret
    exact ⟨rfl, ⟨_, HE.out.1⟩, KW2.out.trans HE.out.2 (fun _ _ e => e) (fun _ _ e => e)⟩
  · have em : (kd : Int).tmod 8 = 5 ∧ (kd : Int) % 8 = 5 := ⟨by rw [Int.tmod_eq_emod_of_nonneg (by omega)]; omega, by omega⟩
    obtain ⟨em1, em2⟩ := em
    clear hm
    go_enter Tryd.func38, Tryd.ntmps38
    go_wp2_with fail
    refine (HTX.out _).mono ?_
    rintro e w2 ⟨s, rfl, k2⟩
    obtain ⟨c0, c1, c2, c3, _, _, _, _, hbl⟩ := box4 k2
    obtain ⟨t2, kw2⟩ := hfin.out w2 k2
    have T2 := Lib.hid t2; have KW2 := Lib.hid kw2
    clear k2 t2 kw2 HTX
    go_wp2_with fail
    refine (T2.out.a.name ).mono ?_
    rintro e w3 ⟨rfl, h3, k3⟩
    have H3 := Lib.hid h3; have K3 := Lib.hid k3; clear h3 k3
    go_wp2_with fail
    refine ((T2.out.refAt K3.out (Kept.refl _ _)).name ).mono ?_
    rintro e w5 ⟨rfl, h5, k5⟩
    have HE := Lib.hid (T2.out.mix H3.out K3.out (Kept.refl _ _) h5 k5)
    clear h5 k5
    generalize (nameT l r).2 = b
    go_wp2_with fail
    go_ret
    exact ⟨rfl, ⟨_, HE.out.1⟩, KW2.out.trans HE.out.2 (fun _ _ e => e) (fun _ _ e => e)⟩
  · have em : (kd : Int).tmod 8 = 6 ∧ (kd : Int) % 8 = 6 := ⟨by rw [Int.tmod_eq_emod_of_nonneg (by omega)]; omega, by omega⟩
    obtain ⟨em1, em2⟩ := em
    clear hm
    go_enter Tryd.func38, Tryd.ntmps38
    go_wp2_with fail
    refine (HTX.out _).mono ?_
    rintro e w2 ⟨s, rfl, k2⟩
    obtain ⟨c0, c1, c2, c3, _, _, _, _, hbl⟩ := box4 k2
    obtain ⟨t2, kw2⟩ := hfin.out w2 k2
    have T2 := Lib.hid t2; have KW2 := Lib.hid kw2
    clear k2 t2 kw2 HTX
    have HC : Hid (∀ W, Kept (fun k => k = g ∨ k = h) w2 W → W.cell? ⟨w.heap.size, 2, none⟩ = some (.int .i64 lo) ∧ W.cell? ⟨w.heap.size, 3, none⟩ = some (.int .i64 hi)) := fun W q =>
      ⟨(q.cell (p := ⟨w.heap.size, 2, none⟩) hbl (fun e => by have e : w.heap.size = g ∨ w.heap.size = h := e; omega)).trans c2, (q.cell (p := ⟨w.heap.size, 3, none⟩) hbl (fun e => by have e : w.heap.size = g ∨ w.heap.size = h := e; omega)).trans c3⟩
    generalize w.heap.size = bx at *
    go_wp2_with fail
    have D5 := Lib.hid ((Kept.refl (fun k => k = g ∨ k = h) w2).drew)
    have T5 := Lib.hid (T2.out.stay ((Kept.refl (fun _ => False) w2).drew))
    clear c0 c1
    go_region_held3 (fun w' => w'.cell? ⟨bx, 2, none⟩ = some (.int .i64 lo) ∧ w'.cell? ⟨bx, 3, none⟩ = some (.int .i64 hi))
      (first | exact HC.out _ D7.out | exact HC.out _ D6.out | exact HC.out _ D5.out)
      ((first | (go_at_call 37; (with_reducible refine (T5.out.a.number lo hi).mono ?_); rintro e w6 ⟨rfl, h6, k6⟩; have H6 := Lib.hid h6; have K6 := Lib.hid k6; have D6 := Lib.hid (D5.out.trans k6 (T := fun k => k = g ∨ k = h) (fun _ _ e => e) (fun _ _ e => Or.inl e)); clear h6 k6) | (go_at_call 69; (with_reducible refine ((T5.out.refAt K6.out (Kept.refl _ _)).number lo hi).mono ?_); rintro e w7 ⟨rfl, h7, k7⟩; have HM := Lib.hid (T5.out.mix H6.out K6.out (Kept.refl _ _) h7 k7); have D7 := Lib.hid (D6.out.trans k7 (T := fun k => k = g ∨ k = h) (fun _ _ e => e) (fun _ _ e => Or.inr e)); clear h7 k7)))
    all_goals
      have HE := Lib.hid ((⟨HM.out.1, D7.out⟩ : Two _ g h gv hv l _ ∧ Kept (fun k => k = g ∨ k = h) w2 _))
      generalize (numS15 l r lo hi).2 = b
      go_wp2_with fail
      go_ret
      exact ⟨rfl, ⟨_, HE.out.1⟩, KW2.out.trans HE.out.2 (fun _ _ e => e) (fun _ _ e => e)⟩
  · obtain ⟨q, hq⟩ : ∃ q, q = tx % 17 := ⟨_, rfl⟩
    have eq3 : (tx : Int).tmod 17 = (q : Int) ∧ (tx : Int) % 17 = (q : Int) ∧ IntKind.i64.wrap (q : Int) = (q : Int) := ⟨by rw [Int.tmod_eq_emod_of_nonneg (by omega)]; omega, by omega, IntWalk.i64_in _ (by omega)⟩
    obtain ⟨eq1, eq2, eq4⟩ := eq3
    clear hq
    have em : (kd : Int).tmod 8 = 7 ∧ (kd : Int) % 8 = 7 := ⟨by rw [Int.tmod_eq_emod_of_nonneg (by omega)]; omega, by omega⟩
    obtain ⟨em1, em2⟩ := em
    clear hm
    go_enter Tryd.func38, Tryd.ntmps38
    go_wp2_with fail
    refine (HTX.out _).mono ?_
    rintro e w2 ⟨s, rfl, k2⟩
    obtain ⟨c0, c1, c2, c3, _, _, _, _, hbl⟩ := box4 k2
    obtain ⟨t2, kw2⟩ := hfin.out w2 k2
    have T2 := Lib.hid t2; have KW2 := Lib.hid kw2
    clear k2 t2 kw2 HTX
    go_wp2_with fail
    refine (T2.out.a.fail q).mono ?_
    rintro e w3 ⟨rfl, h3, k3⟩
    have H3 := Lib.hid h3; have K3 := Lib.hid k3; clear h3 k3
    replace c1 := (K3.out.cell (p := ⟨w.heap.size, 1, none⟩) hbl (fun e => by have e : w.heap.size = g := e; omega)).trans c1
    clear c0 c2 c3
    go_wp2_with fail
    refine ((T2.out.refAt K3.out (Kept.refl _ _)).fail q).mono ?_
    rintro e w5 ⟨rfl, h5, k5⟩
    have HE := Lib.hid (T2.out.mix H3.out K3.out (Kept.refl _ _) h5 k5)
    clear h5 k5
    go_wp2_with fail
    go_ret
    exact ⟨rfl, ⟨_, HE.out.1⟩, KW2.out.trans HE.out.2 (fun _ _ e => e) (fun _ _ e => e)⟩
end Go.Proofs.YthkjcgcfbodgbaaDoor
