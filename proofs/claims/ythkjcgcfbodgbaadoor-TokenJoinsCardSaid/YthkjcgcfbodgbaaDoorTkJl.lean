/-
  arbaclaw15.TokenJoins returns true.
-/
import Derived.Test.YthkjcgcfbodgbaaDoorTkJn
import Derived.Test.YthkjcgcfbodgbaaDoorTkRe
import Derived.Laws.AppendOwnNone
namespace Go.Proofs.YthkjcgcfbodgbaaDoor
open Go.RowKit Go.Shelf
set_option linter.unusedSimpArgs false
set_option linter.unusedVariables false

/-- A token whose text is cut. -/
def cT (x : Tok) : Tok := ⟨x.k, cutK x.t, x.n, x.i⟩
theorem joinL_short : ∀ xs : List ByteArray, (∀ x ∈ xs, x.size ≤ 400) → (joinL xs).length ≤ 401 * xs.length
  | [], _ => by simp [joinL, Lib.join_nil]
  | x :: t, h => by
    have hx := h x (by simp)
    have ex : x.size = x.data.toList.length := rfl
    unfold joinL
    rw [List.map_cons, Lib.join_cons, List.length_append, Lib.joinTail_length]
    have hl : Lib.lens (t.map (·.data.toList)) ≤ 400 * t.length := by
      unfold Lib.lens
      have ht : ∀ y ∈ t, y.size ≤ 400 := fun y hy => h y (List.mem_cons_of_mem _ hy)
      clear h hx ex
      induction t with
      | nil => simp
      | cons y u ih =>
        have h1 := ht y (by simp)
        have e1 : y.size = y.data.toList.length := rfl
        have h2 := ih (fun z hz => ht z (List.mem_cons_of_mem _ hz))
        simp only [List.map_cons, List.sum_cons, List.length_cons] at h2 ⊢
        omega
    simp only [List.length_cons, List.length_nil, List.length_map]
    omega
theorem texts_cut (l : List Tok) : ∀ x ∈ textsS (l.map cT), x.size ≤ 400 := fun x hx => by
  unfold textsS at hx
  obtain ⟨y, hy, rfl⟩ := List.mem_map.1 hx
  obtain ⟨z, _, rfl⟩ := List.mem_map.1 (List.mem_filter.1 hy).1
  exact cutK_size z.t

/-- What the loop of TokenJoins keeps. -/
structure JInv (w wr : World) (v rv : Value) (l : List Tok) (N k : Nat) : Prop where
  row : RowF .u8 wr w.heap.size v N (fun i => if i < k then cT (l.getD i tok0) else l.getD i tok0)
  raw : OwnK .i64 44 w.heap.size wr rv ((l.take k).map cT)
  apart : ∀ j, rv.ownBlock = some j → v.ownBlock ≠ some j
  kept : Kept (fun _ => False) w wr

theorem scan_err_nil {s : ByteArray} (h : (scanS s).2.2 ≠ 0) : (scanS s).1 = [] := by
  unfold scanS at h ⊢
  split
  · rfl
  · rename_i h8
    rw [if_neg h8] at h
    split
    · rfl
    · rename_i hq
      rw [hq] at h
      exact absurd rfl h

set_option maxRecDepth 100000 in
set_option maxHeartbeats 6400000 in
theorem tjoins_law (v : Value) (l0 : List Tok) (s : ByteArray) (w : World) (hS : Sym w) (hs : s.size ≤ maxLen) (hl : ToksIn w v l0) (hb : ∀ x ∈ l0, x.k < 256 ∧ x.t.size ≤ maxLen) :
    Calls Tryd.prog 5 #[v, .string s] w fun e w' => e = .returned (.bool true) ∧ Kept (fun _ => False) w w' := by
  obtain ⟨i0, hi, hz0, hz1, hz2⟩ := info_parts info_rtok
  obtain ⟨va, vc, rfl, y1, y2⟩ := hl.form
  unfold maxLen at y2
  have HS := Lib.hid hS
  have HAW := Lib.hid (awake15_any w hS)
  have HC := Lib.hid (fun W => cutk_any s W hs)
  have hcs := cutK_size s
  have hag := fun h => scan_again (t := cutK s) h hcs
  have her := fun h => scan_err_nil (s := cutK s) h
  have hln := scanS_len (cutK s)
  generalize cutK s = t at hcs HC hag her hln
  have H1 := Lib.hid (fun W hW => tscan_any t W (by omega) hW)
  obtain ⟨R, hR⟩ : ∃ R, R = scanS t := ⟨_, rfl⟩
  simp only [← hR] at H1 hag her hln
  obtain ⟨LL, o, b⟩ := R
  simp only at H1 hag her hln
  obtain ⟨M, hM⟩ : ∃ M, M = l0.length := ⟨_, rfl⟩
  obtain ⟨N, hN⟩ : ∃ N, N = min M 20 := ⟨_, rfl⟩
  have hmin : min (M : Int) 20 = (N : Int) := by omega
  have hN0 : (0 : Int) ≤ (N : Int) := by omega
  have hN1 : (N : Int) ≤ (M : Int) := by omega
  have hN2 : (N : Int) ≤ (vc : Int) := by omega
  have hN3 : N ≤ vc := by omega
  have hN5 : N ≤ 20 := by omega
  have hcut : ToksIn w (.slice va N vc) (l0.take N) := hl.cut N (by omega)
  have hlen : (l0.take N).length = N := by rw [List.length_take]; omega
  have hbt : ∀ x ∈ l0.take N, x.k < 256 ∧ x.t.size ≤ maxLen := fun x hx => hb x (List.mem_of_mem_take hx)
  rw [← hM]
  clear hR hS hs hl hb hM hN y1
  generalize l0.take N = l at hcut hlen hbt
  have HCL : Hid (∀ W, Kept (fun _ => False) w W → Calls Tryd.prog 19 #[.slice va N vc] W fun e w' => ∃ v', e = .returned v' ∧ OwnK .u8 31 W.heap.size w' v' l ∧ Kept (fun _ => False) W w') := fun W hW => tclone_in _ l W (hcut.kept hW) (by omega)
  have HLN := Lib.hid hlen
  have HBT : Hid (∀ i, i < N → (l.getD i tok0).k < 256 ∧ (l.getD i tok0).t.size ≤ maxLen) := fun i hi => by
    have e : l.getD i tok0 = l[i]'(by omega) := by simp [List.getD, show i < l.length by omega]
    rw [e]
    exact hbt _ (List.getElem_mem _)
  have HAG := Lib.hid hag; have HER := Lib.hid her
  have HTX := Lib.hid (joinL_short (textsS (l.map cT)) (texts_cut l))
  have HTL : Hid ((textsS (l.map cT)).length ≤ 20) := by
    have := textsS_len (l.map cT)
    rw [List.length_map, hlen] at this
    show _ ≤ _
    omega
  clear hcut hlen hbt hag her
  go_enter Tryd.func5, Tryd.ntmps5
  go_wp2_with fail
  refine HAW.out.mono ?_
  rintro e w1 ⟨rfl, k1⟩
  have K1 := Lib.hid k1
  clear k1 HAW
  go_wp2_with fail
  refine (HCL.out _ K1.out).mono ?_
  rintro e w2 ⟨v2, rfl, o2, k2⟩
  have hr := o2.rowF
  rw [HLN.out] at hr
  have HJ0 : Hid (JInv w w2 v2 (.slice none 0 0) l N 0) := by
    have hrr : RowF .u8 w2 w.heap.size v2 N (fun i => if i < 0 then cT (l.getD i tok0) else l.getD i tok0) := by
      have e : (fun i => if i < 0 then cT (l.getD i tok0) else l.getD i tok0) = fun i => l.getD i tok0 := by
        funext i; exact if_neg (Nat.not_lt_zero i)
      rw [e]
      have hsz := K1.out.size
      rcases hr with h | ⟨g, cap, e1, h1, h2, h3, h4⟩
      · exact Or.inl h
      · exact Or.inr ⟨g, cap, e1, h1, h2, by omega, h4⟩
    exact ⟨hrr, OwnK.nil _ _ _ _, fun j h => (by cases h), K1.out.then k2⟩
  obtain ⟨a2, c2, rfl, z1, z2⟩ := hr.form
  clear o2 k2 hr HCL K1
  go_wp2_with fail
  go_loopw [5, 23] (fun rv iv wr => ∃ (k rn : Nat) (ra : Option Addr) (rc : Nat), k ≤ N ∧ iv = .int .i64 k ∧ rv = .slice ra rn rc ∧ Hid (JInv w wr (.slice a2 N c2) (.slice ra rn rc) l N k)) (fun _ iv _ => N - (intOf iv).toNat)
  case atStart => exact ⟨0, 0, none, 0, by omega, rfl, rfl, HJ0⟩
  case round =>
    obtain ⟨k, rn, ra, rc, hk, rfl, rfl, hj⟩ := hrel
    have l0' : (0 : Int) ≤ (k : Int) := by omega
    by_cases hlt : k < N
    · have l1 : (k : Int) < (N : Int) := by omega
      obtain ⟨g, rfl, hB, hg, ht, hf⟩ := hj.out.row.at hlt
      simp only [if_neg (Nat.lt_irrefl k)] at ht
      obtain ⟨hk256, hts⟩ := HBT.out k hlt
      have htk : ((l.take (k + 1)).map cT) = ((l.take k).map cT) ++ [cT (l.getD k tok0)] := by
        have hkl : k < l.length := by rw [HLN.out]; exact hlt
        rw [List.take_succ_eq_append_getElem hkl, List.map_append]
        simp [List.getD, hkl]
      have hset : RowF .u8 (wr.setCell ⟨g, k * 4 + 1, none⟩ (.string (cutK (l.getD k tok0).t))) w.heap.size (.slice (some ⟨g, 0, none⟩) N c2) N (fun i => if i < k + 1 then cT (l.getD i tok0) else l.getD i tok0) := by
        refine hj.out.row.setT hlt _ (fun i hi => ?_)
        by_cases e : i = k
        · subst e
          simp only [if_pos (Nat.lt_succ_self i), if_true, if_neg (Nat.lt_irrefl i)]
          rfl
        · rw [if_neg e]
          by_cases e2 : i < k
          · rw [if_pos (by omega), if_pos e2]
          · rw [if_neg (by omega), if_neg e2]
      have hks : Kept (fun i => i = g) wr (wr.setCell ⟨g, k * 4 + 1, none⟩ (.string (cutK (l.getD k tok0).t))) := Kept.setCell (fun i => i = g) wr ⟨g, k * 4 + 1, none⟩ _ rfl
      have hraw : OwnK .i64 44 w.heap.size (wr.setCell ⟨g, k * 4 + 1, none⟩ (.string (cutK (l.getD k tok0).t))) (.slice ra rn rc) ((l.take k).map cT) := hj.out.raw.kept hks (fun j e1 e2 => hj.out.apart j e1 (by rw [e2]; rfl))
      have HCK := Lib.hid (fun W => cutk_any (l.getD k tok0).t W hts)
      have hkw : Kept (fun _ => False) w (wr.setCell ⟨g, k * 4 + 1, none⟩ (.string (cutK (l.getD k tok0).t))) := hj.out.kept.trans hks (fun _ _ h => h) (fun i hi e => by have e : i = g := e; omega)
      have HTO := Lib.hid (fun W => told_any (cT (l.getD k tok0)) hk256 W)
      have hrn : rn = k := by
        obtain ⟨a', c', e, _, _⟩ := hj.out.raw.form
        cases e
        rw [List.length_map, List.length_take, HLN.out]; omega
      subst hrn
      have hlk : ((l.take rn).map cT).length = rn := by rw [List.length_map, List.length_take, HLN.out]; omega
      have HAP := Lib.hid hj.out.apart
      have HTK := Lib.hid htk
      unfold OwnK at hraw
      rw [hlk] at hraw
      obtain ⟨c0, c1, c2', c3⟩ := ht
      have f1 := hf (rn * 4 + 1)
      unfold cT at HTO
      unfold tkV at HTO
      simp only at HTO
      have hct : cT (l.getD rn tok0) = ⟨(l.getD rn tok0).k, cutK (l.getD rn tok0).t, (l.getD rn tok0).n, (l.getD rn tok0).i⟩ := rfl
      rw [hct] at HTK
      clear hct htk hj hf hks hk256 hts
      generalize (l.getD rn tok0).i = ti at c3 HTO HTK
      generalize (l.getD rn tok0).n = tn at c2' HTO HTK
      generalize (l.getD rn tok0).k = kk at c0 HTO HTK
      generalize cutK (l.getD rn tok0).t = ct at hset hraw HCK hkw HTO HTK
      generalize (l.getD rn tok0).t = tt at c1 HCK
      have HSET := Lib.hid hset; have HRAW := Lib.hid hraw; have HKW := Lib.hid hkw
      clear hset hraw hkw hlk
      have hm1 : rn + 1 ≤ maxLen := by unfold maxLen; omega
      have hm2 : (rn + 1) * 40 ≤ 140737488355328 := by omega
      go_wp2_with fail
      refine (HCK.out _).mono ?_
      rintro e w3 ⟨rfl, rfl⟩
      go_wp2_with fail
      refine (HTO.out _).mono ?_
      rintro e w4 ⟨rfl, k4⟩
      have hszk := HKW.out.size
      have hgl : g < w4.heap.size := Nat.lt_of_lt_of_le (by simpa using hg) k4.size
      have HSET4 := Lib.hid (HSET.out.kept k4 (fun _ _ h => h))
      have HRAW4 := Lib.hid (k4.owns HRAW.out (fun _ _ h => h))
      have HKW4 := Lib.hid (HKW.out.then k4)
      have hw4 := (HKW.out.then k4).size
      clear k4 HSET HRAW HKW
      have hb6 : w.heap.size ≤ (w4.alloc (.cells #[.int .i64 kk, .string ct, .int .i64 tn, .int .i64 ti] 44)).heap.size := by simp; omega
      go_wp2_with (at_builtin; refine wpList_append_lies _ rfl _ _ _ rfl w.heap.size 44 i0 _ 4 40 Tryd.underlying42 hi hz0 hz1 hz2 rfl (by omega) (.slice ra rn rc) _ _ rfl (HRAW4.out.alloc _) ⟨w4.heap.size, 0, none⟩ 1 1 [.int .i64 kk, .string ct, .int .i64 tn, .int .i64 ti] rfl rfl (World.news_of_block (cs := #[.int .i64 kk, .string ct, .int .i64 tn, .int .i64 ti]) (t := 44) (fr := (0, 0)) (heap_alloc_new w4 _)) (by simp [Value.oneCell']) (by omega) hm1 hm2 hb6 (w4.heap.size + 1) (by simp) ?_)
      intro gg cap w7 hown7 hgrow hat hgl7
      have kp : Kept (blk (.slice ra rn rc)) w4 w7 := (Kept.alloc (fun _ => False) w4 (.cells #[.int .i64 kk, .string ct, .int .i64 tn, .int .i64 ti] 44)).trans (Kept.ofGrown (S := blk (.slice ra rn rc)) hgrow fun k e => e) (fun _ _ h => h.elim) (fun _ _ h => h)
      have HIV : Hid (JInv w w7 (.slice (some ⟨g, 0, none⟩) N c2) (.slice (some ⟨gg, 0, none⟩) (rn + 1) cap) l N (rn + 1)) := by
        refine ⟨HSET4.out.kept kp (fun j e1 e2 => HAP.out j e2 e1), ?_, fun j e1 e2 => ?_, HKW4.out.trans kp (fun _ _ h => h) (fun i hi e => by have := (HRAW4.out.lt _ e).1; omega)⟩
        · rw [HTK.out]
          refine OwnK.push ?_
          have hlk2 : ((l.take rn).map cT).length = rn := by rw [List.length_map, List.length_take, HLN.out]; omega
          have h9 := hown7
          try rw [← List.map_take] at h9
          rw [hlk2]; exact h9
        · cases e1
          cases e2
          rcases hat with e | e
          · exact HAP.out _ e rfl
          · omega
      clear hown7 hgrow hat hgl7 kp hb6
      go_wp2_with fail
      go_roundw
      case rel => first | exact ⟨rn + 1, rn + 1, _, cap, by omega, by go_num, rfl, HIV⟩ | ((repeat apply Exists.intro); exact ⟨⟨rn + 1, rn + 1, _, cap, by omega, by go_num, rfl, HIV⟩, rfl⟩)
      case measure => simp [intOf]; omega
    · obtain rfl : k = N := by omega
      have hlm : (l.map cT).length = k := by rw [List.length_map, HLN.out]
      have HT1 : Hid (Toks .u8 wr (.slice a2 k c2) (l.map cT)) := by
        have h1 := hj.out.row
        have h2 : Toks .u8 wr (.slice a2 k c2) (l.map cT) := by
          rw [← hlm] at h1
          rw [← hlm]
          refine h1.toks (fun i hi => ?_)
          rw [hlm] at hi
          simp only [hlm, if_pos hi]
          have hil : i < l.length := by rw [HLN.out]; exact hi
          simp [List.getD, hil]
        exact h2
      have HT2 : Hid (Toks .i64 wr (.slice ra rn rc) (l.map cT)) := by
        have h1 := hj.out.raw.toks
        rwa [List.take_of_length_le (by rw [HLN.out]; exact Nat.le_refl _)] at h1
      have HK := Lib.hid hj.out.kept
      have hjb : (joinL (textsS (l.map cT))).length ≤ 100000000 := by have := HTX.out; have := HTL.out; omega
      have hll : (l.map cT).length ≤ 100000 := by omega
      have HJ1 := Lib.hid (tjoin_any _ (l.map cT) wr HT1.out hll hjb)
      have HJ2 := Lib.hid (fun W (q : Kept (fun _ => False) wr W) => rjoinT_any _ (l.map cT) W (HT2.out.kept q (fun _ _ h => h)) hll hjb)
      generalize joinB (textsS (l.map cT)) = J at HJ1 HJ2
      clear hj hlm hll hjb HT1 HT2 HTX HTL
      go_wp2_with fail
      refine HJ1.out.mono ?_
      rintro e w3 ⟨rfl, k3⟩
      have K3 := Lib.hid k3; clear k3
      go_wp2_with fail
      refine (HJ2.out _ K3.out).mono ?_
      rintro e w4 ⟨rfl, k4⟩
      have K4 := Lib.hid (HK.out.then (K3.out.then k4)); clear k4 HJ1 HJ2
      go_wp2_with fail
      refine (HC.out _).mono ?_
      rintro e w5 ⟨rfl, rfl⟩
      go_wp2_with fail
      refine (H1.out _ (HS.out.kept K4.out (fun h => h))).mono ?_
      rintro e w6 ⟨v6, rfl, o6, k6⟩
      have K6 := Lib.hid (K4.out.then k6)
      have T6 := Lib.hid o6.toks
      obtain ⟨a6, c6, rfl, x1, x2⟩ := o6.form
      clear o6 k6
      by_cases hb0 : b = 0
      · subst hb0
        obtain ⟨g1, g2, g3⟩ := HAG.out rfl
        have HG3 := Lib.hid g3
        have HSC := Lib.hid (fun W hW => tscan_any (joinB (textsS LL)) W (by rw [joinB_size]; omega) hW)
        have HJX := Lib.hid (fun W (q : Kept (fun _ => False) w6 W) => tjoin_any _ LL W (T6.out.kept q (fun _ _ h => h)) (by omega) (by omega))
        generalize joinB (textsS LL) = JJ at HSC HJX g2 HG3
        obtain ⟨R2, hR2⟩ : ∃ R2, R2 = scanS JJ := ⟨_, rfl⟩
        have hln2 := scanS_len JJ
        simp only [← hR2] at HSC g2 HG3
        obtain ⟨L2, e2⟩ := R2
        simp only at HSC g2 HG3
        subst g2
        simp only at HSC
        have hl2 : L2.length = LL.length := by
          have := congrArg List.length HG3.out
          simpa using this
        clear hR2 g1 g3 hln2 HER HAG
        go_wp2_with fail
        refine (HJX.out _ (Kept.refl _ _)).mono ?_
        rintro e w7 ⟨rfl, k7⟩
        have K7 := Lib.hid k7; clear k7
        go_wp2_with fail
        refine (HSC.out _ (HS.out.kept (K6.out.then K7.out) (fun h => h))).mono ?_
        rintro e w8 ⟨v8, rfl, o8, k8⟩
        have T8 := Lib.hid o8.toks
        have K8 := Lib.hid (K7.out.then k8)
        clear o8 k8
        go_wp2_with fail
        refine (plain_any _ LL w8 (T6.out.kept K8.out (fun _ _ h => h)) (by omega)).mono ?_
        rintro e w9 ⟨v9, rfl, t9, k9⟩
        have T9 := Lib.hid t9
        have K9 := Lib.hid (K8.out.then k9)
        have T89 := Lib.hid (T8.out.kept k9 (fun _ _ h => h))
        clear t9 k9
        go_wp2_with fail
        refine (plain_any _ L2 w9 T89.out (by omega)).mono ?_
        rintro e w10 ⟨v10, rfl, t10, k10⟩
        rw [HG3.out] at t10
        have T10 := Lib.hid t10
        have T910 := Lib.hid (T9.out.kept k10 (fun _ _ h => h))
        have K10 := Lib.hid (K9.out.then k10)
        clear t10 k10
        go_wp2_with fail
        refine (teq_any _ _ (LL.map zT) w10 T910.out T10.out).mono ?_
        rintro e w11 ⟨rfl, k11⟩
        have K11 := Lib.hid (K6.out.then (K10.out.then k11))
        clear k11
        go_wp2_with fail
        go_ret
        exact ⟨rfl, K11.out⟩
      · have hbb : ((b : Int) == 0) = false := beq_eq_false_iff_ne.2 (by omega)
        have hbb2 : ((b : Int) != 0) = true := by simp only [bne, hbb, Bool.not_false]
        have hnil := HER.out hb0
        subst hnil
        clear HER HAG
        go_wp2_with fail
        go_ret
        exact ⟨rfl, K6.out⟩
end Go.Proofs.YthkjcgcfbodgbaaDoor
