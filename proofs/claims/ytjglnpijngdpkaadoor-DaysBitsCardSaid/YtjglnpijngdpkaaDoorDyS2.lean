import Derived.Test.YtjglnpijngdpkaaDoorDyBp
import Derived.Test.YtjglnpijngdpkaaDoorDyIs
import Derived.Test.YtjglnpijngdpkaaDoorGE
import Derived.Test.YtjglnpijngdpkaaDoorGC
import Derived.Test.YtjglnpijngdpkaaDoorGA
import Derived.Deep.RegionHeld3
/-
  Days: same of DaysBits: a set of days against a set of numbers.
-/
namespace Go.Proofs.YtjglnpijngdpkaaDoor
open Go.RowKit Go.Shelf
set_option linter.unusedSimpArgs false
set_option linter.unusedVariables false
set_option maxRecDepth 100000

theorem LeastS.one {M d e : Nat} (h : LeastS M d) (k : LeastS M e) : d = e := by
  rcases Nat.lt_trichotomy d e with h1 | h1 | h1
  · have := k.low d h1; rw [h.bit] at this; cases this
  · exact h1
  · have := h.low e h1; rw [k.bit] at this; cases this
theorem memD_all {t : List Int} {F : Int → Bool} (hc : CanD t) (hi : ∀ d, 0 ≤ d → d ≤ 30000 → inD t d = F d) (hF : ∀ x : Nat, 301 ≤ x → F (x : Int) = false) : ∀ d : Int, 0 ≤ d → inD t d = F d := fun d h0 => by
  by_cases h1 : d ≤ 30000
  · exact hi d h0 h1
  · have e1 : inD t d = false := by
      unfold inD
      rw [cntD_all (fun x hx => by have := hc.top x hx; omega)]
      unfold oddD
      exact decide_eq_false (by have := hc.even; omega)
    have e2 := hF d.toNat (by omega)
    rw [show ((d.toNat : Nat) : Int) = d by omega] at e2
    rw [e1, e2]
theorem first_agree {t : List Int} {F : Int → Bool} {M : Nat} (hall : ∀ d : Int, 0 ≤ d → inD t d = F d) (hr : RelB M F) {n : Int} {ok : Bool} (h : NextD t 0 n ok) : (ok = false ∧ n = 0 ∧ M = 0) ∨ (ok = true ∧ ∃ d : Nat, n = (d : Int) ∧ LeastS M d) := by
  rcases h with ⟨rfl, h1, h2, h3⟩ | ⟨rfl, rfl, h1⟩
  · right
    refine ⟨rfl, n.toNat, by omega, ?_, ?_⟩
    · rw [hr.bit, show ((n.toNat : Nat) : Int) = n by omega, ← hall n h1]; exact h2
    · intro i hi'
      rw [hr.bit, ← hall _ (by omega)]
      exact h3 _ (by omega) (by omega)
  · left
    refine ⟨rfl, rfl, hr.zero_iff.2 fun x => ?_⟩
    rw [← hall _ (by omega)]
    exact h1 _ (by omega)
theorem leastF_any {w : World} {v : Value} {M : Nat} {n : Int} {ok : Bool} (h : SetV w v M) (hS : Small M) (hT : Tz w) (hf : (ok = false ∧ n = 0 ∧ M = 0) ∨ (ok = true ∧ ∃ d : Nat, n = (d : Int) ∧ LeastS M d)) :
    Calls Tryd.prog 36 #[v] w fun e w' => e = .returned (.tuple #[.int .i64 n, .bool ok]) ∧ Kept (fun _ => False) w w' := by
  refine (least_any w v M h hS hT).mono ?_
  rintro e w' ⟨h, k⟩
  refine ⟨?_, k⟩
  rcases h with ⟨z, rfl⟩ | ⟨d, hd, rfl⟩ <;> rcases hf with ⟨rfl, rfl, zm⟩ | ⟨rfl, d', rfl, hd'⟩
  · rfl
  · exact absurd z hd'.ne
  · exact absurd zm hd.ne
  · rw [hd.one hd']
theorem lenF_any {w : World} {v : Value} {M : Nat} {F : Int → Bool} {c : Int} (h : SetV w v M) (hr : RelB M F) (hF : ∀ x : Nat, 301 ≤ x → F (x : Int) = false) (hc : c = cntF F) :
    Calls Tryd.prog 37 #[v] w fun e w' => e = .returned (.int .i64 c) ∧ Kept (fun _ => False) w w' := by
  obtain ⟨hv, hs, e, hw, hcn, _⟩ := h.ex
  refine (len_any w v M hv hs e hw hcn (hcn.small hr.small)).mono ?_
  rintro e w' ⟨rfl, k⟩
  refine ⟨?_, k⟩
  rw [hc, hr.count hF, lenS_mem hcn (hcn.small hr.small)]

set_option maxHeartbeats 6400000 in
theorem same2_any (w0 : World) (v x : Value) (F : Int → Bool) (M : Nat) (hm : MemD w0 v F) (hF : ∀ x : Nat, 301 ≤ x → F (x : Int) = false) (hs : SetV w0 x M) (hr : RelB M F) (hT : Tz w0) :
    Calls Tryd.prog 35 #[v, x] w0 fun e w' => e = .returned (.bool true) ∧ Kept (fun _ => False) w0 w' := by
  have HMD := Lib.hid (fun W (k : Kept (fun _ => False) w0 W) => hm.on k)
  have HSV : Hid (∀ W, Kept (fun _ => False) w0 W → SetV W x M) := Lib.hid fun W k => by
    obtain ⟨hv, hs2, e, hw, hc, hz⟩ := hs.ex
    exact ⟨hv, hs2, e, hw.kept k (fun _ _ h => h), hc, hz⟩
  have HTZ : Hid (∀ W, Kept (fun _ => False) w0 W → Tz W) := Lib.hid fun W k => hT.kept k (fun h => h)
  have HRB := Lib.hid hr
  obtain ⟨t, hst, hi⟩ := hm
  have hall := memD_all hst.can hi hF
  have hfo : ∃ (lo : Int) (a : Option Addr) (n c : Nat), x = .agg #[.int .u64 lo, .slice a n c] := by
    obtain ⟨hv, hs2, e, hw, hc, hz⟩ := hs.ex
    obtain ⟨a, c, rfl⟩ := hw.form
    exact ⟨_, _, _, _, e⟩
  obtain ⟨lo, b, m, kk, rfl⟩ := hfo
  have hsW := hst
  obtain ⟨row, rfl, hrow, hcan⟩ := hst
  obtain ⟨ra, rc, rfl, _, _⟩ := hrow.form
  obtain ⟨l, hl⟩ : ∃ l, l = spansD t := ⟨_, rfl⟩
  obtain ⟨y, hy⟩ : ∃ y, y = cntF F := ⟨_, rfl⟩
  have HNX : Hid (∀ W, Kept (fun _ => False) w0 W → Calls Tryd.prog 26 #[.agg #[.slice ra t.length rc], .int .i64 0] W fun e w' => ∃ n ok, e = .returned (.tuple #[.int .i64 n, .bool ok]) ∧ ((ok = false ∧ n = 0 ∧ M = 0) ∨ (ok = true ∧ ∃ d : Nat, n = (d : Int) ∧ LeastS M d)) ∧ Kept (fun _ => False) W w') := Lib.hid fun W k => by
    refine (nextD_any _ t 0 W (hsW.on k)).mono ?_
    rintro e w' ⟨n, ok, rfl, h, k⟩
    exact ⟨n, ok, rfl, first_agree hall hr h, k⟩
  have HLE : Hid (∀ W n ok, ((ok = false ∧ n = 0 ∧ M = 0) ∨ (ok = true ∧ ∃ d : Nat, n = (d : Int) ∧ LeastS M d)) → Kept (fun _ => False) w0 W → Calls Tryd.prog 36 #[.agg #[.int .u64 lo, .slice b m kk]] W fun e w' => e = .returned (.tuple #[.int .i64 n, .bool ok]) ∧ Kept (fun _ => False) W w') := Lib.hid fun W n ok h k => leastF_any (HSV.out W k) hr.small (HTZ.out W k) h
  have HLD : Hid (∀ W, Kept (fun _ => False) w0 W → Calls Tryd.prog 25 #[.agg #[.slice ra t.length rc]] W fun e w' => e = .returned (.int .i64 y) ∧ Kept (fun _ => False) W w') := Lib.hid fun W k => len_M W _ y (HMD.out W k) hy
  have HLX : Hid (∀ W, Kept (fun _ => False) w0 W → Calls Tryd.prog 37 #[.agg #[.int .u64 lo, .slice b m kk]] W fun e w' => e = .returned (.int .i64 y) ∧ Kept (fun _ => False) W w') := Lib.hid fun W k => lenF_any (HSV.out W k) hr hF hy
  have HSPA : Hid (∀ W, Kept (fun _ => False) w0 W → Calls Tryd.prog 38 #[.agg #[.slice ra t.length rc]] W fun e w' => ∃ u, e = .returned u ∧ OwnG ESp 62 W.heap.size w' u l ∧ Kept (fun _ => False) W w') := Lib.hid fun W k => by rw [hl]; exact spansP_any _ _ _ (hsW.on k)
  have HHA : Hid (∀ W d, 0 ≤ d → inD t d = true → Kept (fun _ => False) w0 W → Calls Tryd.prog 39 #[.agg #[.int .u64 lo, .slice b m kk], .int .i64 d] W fun e w' => e = .returned (.bool true) ∧ Kept (fun _ => False) W w') := Lib.hid fun W d h0 hd k => by
    obtain ⟨i, rfl⟩ : ∃ i : Nat, d = (i : Int) := ⟨d.toNat, by omega⟩
    have hf : F (i : Int) = true := by rw [← hall _ h0]; exact hd
    have h3 : i ≤ 300 := by
      rcases Nat.lt_or_ge i 301 with h | h
      · omega
      · have := hF i h; rw [hf] at this; cases this
    refine (has_any W _ M i (HSV.out W k) (by omega)).mono ?_
    rintro e w' ⟨rfl, k⟩
    exact ⟨by rw [hr.bit, hf], k⟩
  have HED := Lib.hid (fun p (hp : p ∈ l) => spansD_edges hcan (by rw [← hl]; exact hp))
  have HOK := Lib.hid (fun p (hp : p ∈ l) => spansD_ok hcan p (by rw [← hl]; exact hp))
  have hlb : l.length ≤ 15001 := by rw [hl, spansD_len]; have := hcan.len; omega
  obtain ⟨N, hN⟩ : ∃ N, N = l.length := ⟨_, rfl⟩
  rw [← hN] at hlb
  have HN := Lib.hid hN
  obtain ⟨n0, hn0⟩ : ∃ n, n = t.length := ⟨_, rfl⟩
  rw [← hn0] at HNX HLD HSPA ⊢
  have HK1 := Lib.hid ((Kept.alloc (fun _ => False) w0 (.cells #[.slice ra n0 rc] 27)).then (Kept.alloc (fun _ => False) (w0.alloc (.cells #[.slice ra n0 rc] 27)) (.cells #[.int .u64 lo, .slice b m kk] 57)))
  have c0 : ((w0.alloc (.cells #[.slice ra n0 rc] 27)).alloc (.cells #[.int .u64 lo, .slice b m kk] 57)).cell? ⟨w0.heap.size, 0, none⟩ = some (.slice ra n0 rc) := by go_simp
  have c1 : ((w0.alloc (.cells #[.slice ra n0 rc] 27)).alloc (.cells #[.int .u64 lo, .slice b m kk] 57)).cell? ⟨w0.heap.size + 1, 0, none⟩ = some (.int .u64 lo) := by go_simp
  have c2 : ((w0.alloc (.cells #[.slice ra n0 rc] 27)).alloc (.cells #[.int .u64 lo, .slice b m kk] 57)).cell? ⟨w0.heap.size + 1, 1, none⟩ = some (.slice b m kk) := by go_simp
  have hsz : ((w0.alloc (.cells #[.slice ra n0 rc] 27)).alloc (.cells #[.int .u64 lo, .slice b m kk] 57)).heap.size = w0.heap.size + 2 := by simp
  have HSZ := Lib.hid hsz
  clear hl hy hN hn0 hsW hrow hcan hs hr hi hall hF hT hsz HSV HTZ HMD HRB
  go_enter Tryd.func35, Tryd.ntmps35
  go_wp2_with fail
  refine (HNX.out _ HK1.out).mono ?_
  generalize hw1 : (w0.alloc (.cells #[.slice ra n0 rc] 27)).alloc (.cells #[.int .u64 lo, .slice b m kk] 57) = w1 at *
  clear hw1
  have HC1 : Hid (∀ W, Kept (fun _ => False) w1 W → W.cell? ⟨w0.heap.size, 0, none⟩ = some (.slice ra n0 rc) ∧ W.cell? ⟨w0.heap.size + 1, 0, none⟩ = some (.int .u64 lo) ∧ W.cell? ⟨w0.heap.size + 1, 1, none⟩ = some (.slice b m kk)) := Lib.hid fun W k =>
    ⟨(k.cell (p := ⟨w0.heap.size, 0, none⟩) (by show w0.heap.size < _; rw [HSZ.out]; omega) (fun h => h)).trans c0, (k.cell (p := ⟨w0.heap.size + 1, 0, none⟩) (by show w0.heap.size + 1 < _; rw [HSZ.out]; omega) (fun h => h)).trans c1, (k.cell (p := ⟨w0.heap.size + 1, 1, none⟩) (by show w0.heap.size + 1 < _; rw [HSZ.out]; omega) (fun h => h)).trans c2⟩
  obtain ⟨P, hP⟩ : ∃ P, P = w0.heap.size := ⟨_, rfl⟩
  rw [← hP] at HC1 ⊢
  clear c0 c1 c2 HNX HSZ hP
  rintro e w2 ⟨n, ok, rfl, hn, k2⟩
  have HNF := Lib.hid hn
  have HK2 := Lib.hid (HK1.out.then k2)
  have HC2 := Lib.hid (fun W (k : Kept (fun _ => False) w2 W) => HC1.out W (k2.then k))
  obtain ⟨c0, c1, c2⟩ := HC2.out w2 (Kept.refl _ _)
  clear hn k2 HC1 HK1
  go_wp2_with fail
  refine (HLE.out _ _ _ HNF.out HK2.out).mono ?_
  rintro e w3 ⟨rfl, k3⟩
  have HK3 := Lib.hid (HK2.out.then k3)
  have HC3 := Lib.hid (fun W (k : Kept (fun _ => False) w3 W) => HC2.out W (k3.then k))
  clear c0 c1 c2 k3 HC2 HK2 HLE HNF
  obtain ⟨c0, c1, c2⟩ := HC3.out w3 (Kept.refl _ _)
  have hbb : ∀ c : Bool, (c != c) = false := fun c => by cases c <;> rfl
  have hii : ∀ c : Int, (c != c) = false := fun c => by simp
  go_wp2_with fail
  go_region_held3 (fun W => W.cell? ⟨P, 0, none⟩ = some (.slice ra n0 rc) ∧ W.cell? ⟨P + 1, 0, none⟩ = some (.int .u64 lo) ∧ W.cell? ⟨P + 1, 1, none⟩ = some (.slice b m kk))
    (first | exact HC3.out _ KC.out | exact HC3.out _ (Kept.refl _ _) | exact HC3.out _ (Kept.refl _ _).drew)
    ((first | (go_at_call 25; with_reducible refine (HLD.out _ (HK3.out.then (show Kept (fun _ => False) w3 _ from (by first | exact KC.out | exact Kept.refl _ _ | exact (Kept.refl _ _).drew)))).mono ?_; rintro e qq ⟨rfl, j1⟩; have KD := Lib.hid (Kept.then (show Kept (fun _ => False) w3 _ from (by first | exact KC.out | exact Kept.refl _ _ | exact (Kept.refl _ _).drew)) j1); (try clear KC); have KC := KD; clear KD; clear j1) | (go_at_call 37; with_reducible refine (HLX.out _ (HK3.out.then (show Kept (fun _ => False) w3 _ from (by first | exact KC.out | exact Kept.refl _ _ | exact (Kept.refl _ _).drew)))).mono ?_; rintro e qq ⟨rfl, j1⟩; have KD := Lib.hid (Kept.then (show Kept (fun _ => False) w3 _ from (by first | exact KC.out | exact Kept.refl _ _ | exact (Kept.refl _ _).drew)) j1); (try clear KC); have KC := KD; clear KD; clear j1)))
  all_goals
    have HK4 := Lib.hid (HK3.out.then KC.out)
    have HC4 := Lib.hid (fun W (k : Kept (fun _ => False) qq W) => HC3.out W (KC.out.then k))
    clear KC HC3 HK3 HLD HLX c0 c1 c2
    obtain ⟨c0, c1, c2⟩ := HC4.out qq (Kept.refl _ _)
    go_wp2_with fail
    refine (HSPA.out _ HK4.out).mono ?_
    rintro e w6 ⟨u, rfl, hu, k6⟩
    obtain ⟨la, lc, rfl, _, _⟩ := hu.form
    rw [← HN.out] at hu ⊢
    have HU6 : Hid (RowG ESp w6 (.slice la N lc) l) := Lib.hid hu.row
    have HK6 := Lib.hid (HK4.out.then k6)
    have HC6 := Lib.hid (fun W (k : Kept (fun _ => False) w6 W) => HC4.out W (k6.then k))
    clear hu k6 HC4 HK4 c0 c1 c2 HSPA
    go_wp2_with fail
    go_loopw [10, 39] (fun _ iv wr => ∃ k : Nat, k ≤ N ∧ iv = .int .i64 (k : Int) ∧ Hid (Kept (fun _ => False) w6 wr)) (fun _ iv _ => N - (intOf iv).toNat)
    case atStart => exact ⟨0, Nat.zero_le _, rfl, Lib.hid (Kept.refl _ _)⟩
    case round =>
      obtain ⟨k, hk, rfl, hI⟩ := hrel
      by_cases hlt : k < N
      · have l1 : (k : Int) < (N : Int) := by omega
        have l0 : (0 : Int) ≤ (k : Int) := by omega
        have hkl : k < l.length := by have := HN.out; omega
        have hm : l.getD k (0, 0) ∈ l := by simp [List.getD, hkl]
        obtain ⟨g, off, rfl, hg, hc⟩ := HU6.out.at (k := k) hkl
        have hed := HED.out _ hm
        have hok := HOK.out _ hm
        change AtG ESp w6 g (off + k * 2) (l.getD k (0, 0)) at hc
        generalize l.getD k (0, 0) = p at hc hed hok
        obtain ⟨pf, pt⟩ := p
        obtain ⟨d0, d1⟩ := atESp hc
        obtain ⟨e0, e1, _, _⟩ := hed
        obtain ⟨o1, o2, o3⟩ := hok
        simp only at d0 d1 e0 e1 o1 o2 o3
        have f0 : wr.cell? ⟨g, off + k * 2, none⟩ = some (.int .i64 pf) := (hI.out.cell (p := ⟨g, off + k * 2, none⟩) hg (fun h => h)).trans d0
        have f1 : wr.cell? ⟨g, off + k * 2 + 1, none⟩ = some (.int .i64 pt) := (hI.out.cell (p := ⟨g, off + k * 2 + 1, none⟩) hg (fun h => h)).trans d1
        have HP0 := Lib.hid (fun W (kw : Kept (fun _ => False) w6 W) => HHA.out W pf o1 e0 (HK6.out.then kw))
        have HP1 := Lib.hid (fun W (kw : Kept (fun _ => False) w6 W) => HHA.out W pt (by omega) e1 (HK6.out.then kw))
        have HKW := Lib.hid (hI.out.then (Kept.alloc (fun _ => False) wr (.cells #[.int .i64 pf, .int .i64 pt] 62)))
        have hx0 : (wr.alloc (.cells #[.int .i64 pf, .int .i64 pt] 62)).cell? ⟨wr.heap.size, 0, none⟩ = some (.int .i64 pf) := by go_simp
        have hx1 : (wr.alloc (.cells #[.int .i64 pf, .int .i64 pt] 62)).cell? ⟨wr.heap.size, 1, none⟩ = some (.int .i64 pt) := by go_simp
        have HXX : Hid (∀ W, Kept (fun _ => False) (wr.alloc (.cells #[.int .i64 pf, .int .i64 pt] 62)) W → W.cell? ⟨wr.heap.size, 0, none⟩ = some (.int .i64 pf) ∧ W.cell? ⟨wr.heap.size, 1, none⟩ = some (.int .i64 pt)) := Lib.hid fun W kw =>
          ⟨(kw.cell (p := ⟨wr.heap.size, 0, none⟩) (by simp) (fun h => h)).trans hx0, (kw.cell (p := ⟨wr.heap.size, 1, none⟩) (by simp) (fun h => h)).trans hx1⟩
        obtain ⟨p0, p1, p2⟩ := HC6.out _ HKW.out
        clear hc hg hm d0 d1 e0 e1 HHA
        go_wp2_with fail
        obtain ⟨wx, hwx⟩ : ∃ wx, wx = wr.alloc (.cells #[.int .i64 pf, .int .i64 pt] 62) := ⟨_, rfl⟩
        obtain ⟨Q, hQ⟩ : ∃ Q, Q = wr.heap.size := ⟨_, rfl⟩
        clear p0 p1 p2
        rw [← hwx] at HKW hx0 hx1 HXX ⊢
        rw [← hQ] at hx0 hx1 HXX ⊢
        have HKB := Lib.hid (fun W (kw : Kept (fun _ => False) wx W) => HKW.out.then kw)
        have HSS : Hid (∀ W, Kept (fun _ => False) wx W → (W.cell? ⟨P, 0, none⟩ = some (.slice ra n0 rc) ∧ W.cell? ⟨P + 1, 0, none⟩ = some (.int .u64 lo) ∧ W.cell? ⟨P + 1, 1, none⟩ = some (.slice b m kk)) ∧ (W.cell? ⟨Q, 0, none⟩ = some (.int .i64 pf) ∧ W.cell? ⟨Q, 1, none⟩ = some (.int .i64 pt))) := Lib.hid fun W kw => ⟨HC6.out W (HKB.out W kw), HXX.out W kw⟩
        clear hwx hQ hx0 hx1 HXX f0 f1
        refine (HP0.out _ (HKB.out _ (Kept.refl _ _))).mono ?_
        rintro e wy ⟨rfl, ky⟩
        obtain ⟨⟨p0, p1, p2⟩, q0, q1⟩ := HSS.out wy ky
        have HKY := Lib.hid ky
        clear ky
        go_wp2_with fail
        refine (HP1.out _ (HKB.out _ HKY.out)).mono ?_
        rintro e wz ⟨rfl, kz⟩
        have HKE := Lib.hid (HKB.out _ (HKY.out.then kz))
        clear p0 p1 p2 q0 q1 kz
        go_wp2_with fail
        go_roundw
        case rel => exact ⟨k + 1, by omega, by go_num, HKE⟩
        case measure => simp [intOf]; omega
      · obtain rfl : k = N := by omega
        have HE := Lib.hid (HK6.out.then hI.out)
        go_wp2_with fail
        go_ret
        exact ⟨rfl, HE.out⟩
end Go.Proofs.YtjglnpijngdpkaaDoor
