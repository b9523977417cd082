/-
  Trees of paths: those, for Below.
-/
import Derived.Test.YtndedphkgkmckaaDoorPaTh
namespace Go.Proofs.YtndedphkgkmckaaDoor
open Go.RowKit Go.Maps Go.WideMaps Go.ChangeMaps
set_option linter.unusedSimpArgs false
set_option linter.unusedVariables false

/-- What has been found so far. -/
structure ThBeInv (w wr : World) (m n : Nat) (D : DataW Unit) (ts : List ByteArray) (keep : ByteArray → Bool) (v : Value) (acc : List ByteArray) (left : Lit → Bool) (cnt : Nat) : Prop where
  rg : wr.ranges Tryd.prog 9 (plainElem Tryd.prog 4) m w.heap.size n D left cnt
  row : OwnS wr w.heap.size v acc
  mem : ∀ s, s ∈ acc ↔ (s ∈ ts ∧ left (.string s.data.toList) = false ∧ keep s = true)
  nodup : acc.Nodup
  len : acc.length + cnt ≤ ts.length
  kept : Kept (fun _ => False) w wr

set_option maxRecDepth 100000 in
set_option maxHeartbeats 3200000 in
theorem thoseBe_any (w : World) (g kb : Nat) (mv : Value) (ts : List ByteArray) (h : TreeL w g mv ts) (hts : ∀ s ∈ ts, IsPath s) (hl : ts.length ≤ 50000) (keep : ByteArray → Bool)
    (hkeep : ∀ q, q.size ≤ 10000 → ∀ W, Kept (fun _ => False) w W → Calls Tryd.prog 40 #[.string q, .pointer (some ⟨kb, 0, none⟩)] W fun e w' => e = .returned (.bool (keep q)) ∧ Kept (fun _ => False) W w') :
    Calls Tryd.prog 39 #[.pointer (some ⟨g, 0, none⟩), .func (.func 40) #[] #[.pointer (some ⟨kb, 0, none⟩)]] w fun e w' => ∃ v r, e = .returned v ∧ ThoseRes w w' ts keep v r := by
  have hc := h.cell
  have hgl := h.lt
  have HKEEP := Lib.hid hkeep; have HTS := Lib.hid hts
  rcases h.map with ⟨rfl, h0, h00⟩ | ⟨m, n, D, rfl, h1, h2, h3, h4⟩
  · have hts0 : ts = [] := List.length_eq_zero_iff.1 h00
    have hrg := run_range_nilMap (P := Tryd.prog) w 67 9 4 Tryd.underlying67
    have hnx : ∀ ty, (Instr.next (.pointer (some ⟨w.heap.size, 0, none⟩)) false ty).run Tryd.prog (w.alloc (.mapIter none 0 #[] 0)) = _ := fun ty => run_next_nilMap _ ty 0 0 #[]
    have HK := Lib.hid (Kept.alloc (fun _ => False) w (.mapIter none 0 #[] 0))
    have HR : Hid (∀ W, Kept (fun _ => False) w W → ThoseRes w W ts keep (.slice none 0 0) []) := fun W hk => ⟨Or.inl ⟨rfl, rfl⟩, ⟨List.Pairwise.nil, by simp⟩, fun x => by rw [hts0]; simp, hk, (fun k hk => by cases hk), by simp⟩
    clear h hkeep hts hts0 h0 h00
    go_enter Tryd.func39, Tryd.ntmps39
    go_wp2
    refine wp_loop_rounds 1 ?_
    rw [rounds_succ]
    go_wp2_with (go_at_call 62; refine (sort_none none 0 _ _).mono ?_; rintro e w2 ⟨rfl, rfl⟩)
    go_ret
    exact ⟨_, _, rfl, HR.out _ HK.out⟩
  · have H1 := Lib.hid h1; have H2 := Lib.hid h2; have H3 := Lib.hid h3
    have hml := h1.lt
    clear h hkeep hts h1 h2 h3
    go_enter Tryd.func39, Tryd.ntmps39
    go_wp2_with (first
      | (at_range; refine wpList_range_own _ rfl _ 67 rfl 9 4 lawT Tryd.underlying67 _ m n _ rfl H1.out ?_; intro w0 hrg0 hg0 hs0)
      | fail)
    try go_frame
    have HI0 : Hid (ThBeInv w w0 m n D ts keep (.slice none 0 0) [] (Maps.has D) (Maps.size D)) :=
      ⟨hrg0, OwnS.nil _ _, (fun s => by
        rw [(H2.out s).1]
        constructor
        · intro hh; simp at hh
        · rintro ⟨a1, a2, _⟩; have a3 : memS s ts = false := a2; rw [(memS_iff s ts).2 a1] at a3; cases a3), List.nodup_nil, by rw [H3.out]; simp, Kept.ofGrown hg0 (fun k e => by cases e)⟩
    clear hrg0 hg0
    go_loopw [5, 6] (fun lv _ wr => ∃ (left : Lit → Bool) (cnt : Nat) (a : Option Addr) (c : Nat) (acc : List ByteArray), lv = .slice a acc.length c ∧ Hid (ThBeInv w wr m n D ts keep (.slice a acc.length c) acc left cnt))
      (fun _ _ wr => wr.rangeLeft m w.heap.size)
    case atStart => exact ⟨_, _, none, 0, [], rfl, HI0⟩
    case round =>
      obtain ⟨left, cnt, a, c, acc, rfl, hI⟩ := hrel
      have hrg := hI.out.rg
      go_wp2_with (first
        | (at_next; refine wpList_next_ranges _ rfl _ rfl 9 lawT (plainElem Tryd.prog 4) Value.string vB (fun key kl h => by obtain ⟨s, rfl, _⟩ := key_invT h; exact ⟨s, rfl⟩) (fun v y h => pl_vB_inv h) m w.heap.size n _ _ _ rfl hrg ?_ ?_)
        | fail)
      · intro hc0 hl0
        have hmem := hI.out.mem
        have hown := hI.out.row
        have hnd := hI.out.nodup
        have hle := hI.out.len
        have hkw := hI.out.kept
        have hpth : ∀ x ∈ acc, IsPath x := fun x hx => HTS.out x ((hmem x).1 hx).1
        have HMEM : Hid (∀ s, s ∈ acc ↔ (s ∈ ts ∧ keep s = true)) := fun s => by rw [hmem s, hl0]; simp
        by_cases hn0 : acc = []
        · subst hn0
          have HR : Hid (∀ W, Kept (fun _ => False) wr W → ThoseRes w W ts keep (.slice a 0 c) []) := fun W hk => ⟨(Strs.ofOwn (v := .slice a 0 c) hown).kept hk (fun _ _ h => h), ⟨List.Pairwise.nil, by simp⟩, HMEM.out, hkw.then hk, hown.lt, by simp⟩
          clear hmem hown hnd hle hkw hpth hI hrg hl0
          go_wp2_with fail
          refine (sort_none a c _ _).mono ?_
          rintro e w2 ⟨rfl, rfl⟩
          go_wp2_with fail
          go_ret
          exact ⟨_, _, rfl, HR.out _ (Kept.refl _ _)⟩
        · obtain ⟨gb, rfl⟩ : ∃ gb, a = some ⟨gb, 0, none⟩ := by
            rcases hown.own.2 with ⟨_, h0⟩ | ⟨g', cap, cur, e, _⟩
            · exact absurd (List.length_eq_zero_iff.1 h0) hn0
            · cases e; exact ⟨g', rfl⟩
          have hS := sort_some wr w.heap.size gb c acc hown hpth hnd (by omega)
          have hgb : w.heap.size ≤ gb := hown.lt gb rfl
          have hsl : ∃ q, q = acc.length := ⟨_, rfl⟩
          obtain ⟨q, hq⟩ := hsl
          have HS := Lib.hid hS; have HKW := Lib.hid hkw; have HQ := Lib.hid hq; have HLE := Lib.hid hle
          rw [← hq] at HS ⊢
          clear hmem hown hnd hle hkw hpth hI hrg hl0 hS hq hn0
          go_wp2_with fail
          refine HS.out.mono ?_
          rintro e w2 ⟨rfl, r, hr1, hr2, hr3, hr4, hr5⟩
          have HR : Hid (ThoseRes w w2 ts keep (.slice (some ⟨gb, 0, none⟩) q c) r) := ⟨hr4, hr1, fun x => by rw [hr2 x]; exact HMEM.out x, HKW.out.trans hr5 (fun _ _ h => h) (fun i hi e => by omega), (fun k hk => by cases hk; exact hgb), by have := HLE.out; have := HQ.out; omega⟩
          clear hr1 hr2 hr3 hr4 hr5
          go_wp2_with fail
          go_ret
          exact ⟨_, _, rfl, HR.out⟩
      · intro x cv kl y ys w1 cnt1 hkey hlx hv hat hrg1 hlt hg1 hs1 hen
        have hvb : vB cv = .bool (decide (cv = 1)) := rfl
        rw [hvb] at hv hen ⊢
        generalize decide (cv = 1) = cb at hv hen ⊢
        obtain ⟨x', ex, rfl, hxs⟩ := key_invT hkey
        cases ex
        have hxt : x ∈ ts := by
          have := has_true_of_atKey hat
          rw [(H2.out x).1] at this
          exact (memS_iff x ts).1 this
        have hxp := HTS.out x hxt
        have hxz : x.size ≤ 10000 := by obtain ⟨l, hl⟩ := isPath_names hxp; exact path_size hl
        have hmem := hI.out.mem
        have hxa : x ∉ acc := fun e => by have := ((hmem x).1 e).2.1; rw [hlx] at this; cases this
        have hk01 : Kept (fun k => k = w.heap.size) wr w1 := Kept.ofGrown hg1 (fun k e => (Option.some.inj e).symm)
        have hkw1 : Kept (fun _ => False) w w1 := hI.out.kept.trans hk01 (fun _ _ h => h) (fun i hi e => by omega)
        have hnotit : ∀ k, (Value.slice a acc.length c).ownBlock = some k → k ≠ w.heap.size := fun k hk e => by
          subst e
          have hb := hI.out.row.own
          rcases hb.2 with ⟨e, _⟩ | ⟨g', cap, cur, e, _, hh, _⟩
          · injection e with e1 e2 e3; rw [e1] at hk; cases hk
          · cases e
            have hgw : g' = w.heap.size := by simpa [Value.ownBlock] using hk
            obtain ⟨es, clock, since, seen, c0, _, _, _, _, h5, _⟩ := hrg
            rw [hgw, h5] at hh
            cases hh
        have hrow1 : OwnS w1 w.heap.size (.slice a acc.length c) acc := hI.out.row.kept hk01 hnotit
        have hnd := hI.out.nodup
        have hle := hI.out.len
        have hleft : ∀ s : ByteArray, (left (.string s.data.toList) && !(Lit.string s.data.toList).sameKey (.string x.data.toList)) = false ↔ (left (.string s.data.toList) = false ∨ s = x) := fun s => by
          rw [Bool.and_eq_false_iff]
          constructor
          · rintro (e | e)
            · exact Or.inl e
            · right
              rw [Bool.not_eq_false'] at e
              have := WideAt.sameKey_eq e
              injection this with this
              exact str_ext this
          · rintro (e | rfl)
            · exact Or.inl e
            · right
              rw [WideAt.sameKey_self (a := .string s.data.toList) trivial]; rfl
        have HKx := Lib.hid (HKEEP.out x hxz w1 hkw1)
        have hmem1 : keep x = false → ∀ s, s ∈ acc ↔ (s ∈ ts ∧ (left (.string s.data.toList) && !(Lit.string s.data.toList).sameKey (.string x.data.toList)) = false ∧ keep s = true) := fun hkx s => by
          rw [hleft s, hmem s]
          constructor
          · rintro ⟨a1, a2, a3⟩; exact ⟨a1, Or.inl a2, a3⟩
          · rintro ⟨a1, a2 | rfl, a3⟩
            · exact ⟨a1, a2, a3⟩
            · rw [hkx] at a3; cases a3
        have hmem2 : keep x = true → ∀ s, s ∈ acc ++ [x] ↔ (s ∈ ts ∧ (left (.string s.data.toList) && !(Lit.string s.data.toList).sameKey (.string x.data.toList)) = false ∧ keep s = true) := fun hkx s => by
          rw [hleft s, List.mem_append, hmem s, List.mem_singleton]
          constructor
          · rintro (⟨a1, a2, a3⟩ | rfl)
            · exact ⟨a1, Or.inl a2, a3⟩
            · exact ⟨hxt, Or.inr rfl, hkx⟩
          · rintro ⟨a1, a2 | rfl, a3⟩
            · exact Or.inl ⟨a1, a2, a3⟩
            · exact Or.inr rfl
        have HM1 := Lib.hid hmem1; have HM2 := Lib.hid hmem2; have HND := Lib.hid hnd; have HXA := Lib.hid hxa
        have HRG1 := Lib.hid hrg1; have HROW1 := Lib.hid hrow1; have HKW1 := Lib.hid hkw1; have HLE := Lib.hid hle
        have HLEQ := Lib.hid hrg.left_eq
        have hal : acc.length ≤ 50000 := by omega
        obtain ⟨b, hb⟩ : ∃ b, b = keep x := ⟨_, rfl⟩
        rw [← hb] at HKx
        have HB := Lib.hid hb
        clear hmem hxt hxp hxz hxa hk01 hrow1 hnd hle hleft hmem1 hmem2 hI hrg hrg1 hv hat hkey hg1 hvb hnotit hkw1 hb
        have eg : ∀ args w, (callFunc 40 args).run Tryd.prog w = .ok (.enter 40 args) w := enters_of Tryd.func40 (by kernel_rfl) rfl
        cases b with
        | false =>
          go_wp2_with (go_at_call 40; refine HKx.out.mono ?_; rintro e w3 ⟨rfl, hk3⟩; have HI3 : Hid (ThBeInv w w3 m n D ts keep (.slice a acc.length c) acc (fun z => left z && !z.sameKey (.string x.data.toList)) cnt1) := ⟨ranges_kept HRG1.out hk3, HROW1.out.kept hk3 (fun _ _ h => h), HM1.out HB.out.symm, HND.out, by have := HLE.out; omega, HKW1.out.then hk3⟩; have HL3 := Lib.hid (ranges_kept HRG1.out hk3).left_eq; clear hk3)
          go_roundw
          case rel => exact ⟨_, cnt1, a, c, acc, rfl, HI3⟩
          case measure => rw [HL3.out, HLEQ.out]; exact hlt
        | true =>
          go_wp2_with (first
            | (go_at_call 40; refine HKx.out.mono ?_; rintro e w3 ⟨rfl, hk3⟩; have HROW3 := Lib.hid (HROW1.out.kept hk3 (fun _ _ h => h)); have HKW3 := Lib.hid (HKW1.out.then hk3); have HRG3 := Lib.hid (ranges_kept HRG1.out hk3); have hsz3 := (HKW1.out.then hk3).size; clear hk3)
            | (at_builtin; refine wpList_pushS (by rfl) _ _ rfl rfl w.heap.size _ acc w3.heap.size x rfl rfl (HROW3.out.alloc _) (by go_simp) (by omega) (by simp; omega) ?_; intro a' c' w4 hown4 hk4; have HOWN4 := Lib.hid hown4; have HKK4 := Lib.hid hk4; clear hown4 hk4))
          have hown4 := HOWN4.out
          have hk4 := HKK4.out
          have hka : Kept (fun _ => False) w3 (w3.alloc (.cells #[.string x] 9)) := Kept.alloc _ _ _
          have hrg4 : w4.ranges Tryd.prog 9 (plainElem Tryd.prog 4) m w.heap.size n D (fun z => left z && !z.sameKey (.string x.data.toList)) cnt1 := by
            have hq := ranges_kept HRG3.out hka
            obtain ⟨es, clock, since, seen, c0, q1, q2, q3, q4, q5, q6⟩ := hq
            have hnb : ∀ k, (Value.slice a acc.length c).ownBlock = some k → k ≠ w.heap.size ∧ w.heap.size ≤ k := fun k hk => by
              refine ⟨fun e => ?_, HROW3.out.lt k hk⟩
              subst e
              rcases (HROW3.out.alloc (.cells #[.string x] 9)).own.2 with ⟨e, _⟩ | ⟨g', cap, cur, e, _, hh, _⟩
              · injection e with e1 e2 e3; rw [e1] at hk; cases hk
              · cases e
                have hgw : g' = w.heap.size := by simpa [Value.ownBlock] using hk
                rw [hgw, q5] at hh
                cases hh
            exact ⟨es, clock, since, seen, c0, (hk4.block m (Array.getElem?_eq_some_iff.1 q1).1 (fun e => by have := (hnb m e).2; omega)).trans q1, q2, q3, q4, (hk4.block w.heap.size (Array.getElem?_eq_some_iff.1 q5).1 (fun e => (hnb _ e).1 rfl)).trans q5, q6⟩
          have HI4 : Hid (ThBeInv w w4 m n D ts keep (.slice a' (acc ++ [x]).length c') (acc ++ [x]) (fun z => left z && !z.sameKey (.string x.data.toList)) cnt1) :=
            ⟨hrg4, by rw [List.length_append]; exact hown4, HM2.out HB.out.symm, by rw [List.nodup_append]; exact ⟨HND.out, by simp, fun p hp q hq e => by simp at hq; subst hq; subst e; exact HXA.out hp⟩, by rw [List.length_append]; have := HLE.out; simp; omega, (HKW3.out.then hka).trans hk4 (fun _ _ h => h) (fun i hi e => by have := HROW3.out.lt i e; omega)⟩
          have HL4 := Lib.hid hrg4.left_eq
          clear hown4 hk4 hka hrg4
          go_roundw
          case rel => exact ⟨_, cnt1, a', c', acc ++ [x], by rw [List.length_append]; rfl, HI4⟩
          case measure => rw [HL4.out, HLEQ.out]; exact hlt
end Go.Proofs.YtndedphkgkmckaaDoor
