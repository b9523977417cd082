/-
  Tokens: Scan (the tokens of any source, or its first error).
-/
import Derived.Test.YthkjcgcfbodgbaaDoorTkK
import Derived.Deep.RegionHeld3
import Derived.OwnWalk
namespace Go.Proofs.YthkjcgcfbodgbaaDoor
open Go.RowKit Go.Shelf
set_option linter.unusedSimpArgs false
set_option linter.unusedVariables false

theorem info_tok : (Tryd.prog.info? 31).map (fun i => (i.zero, i.size, i.bytes)) = some (some (.agg #[.int .u8 0, .string ⟨#[]⟩, .int .i64 0, .int .i64 0]), 4, 40) := by kernel_rfl

theorem firstV_no {s : ByteArray} {k : Nat} (h : (nowT s k).1 = 0) : firstV (s.extract k s.size) = noTok := by
  unfold firstV
  rw [strB_ext]
  exact if_pos h
theorem firstV_yes {s : ByteArray} {k : Nat} (hk : k < s.size) (h : (nowT s k).1 ≠ 0) : firstV (s.extract k s.size) = tokV (nowT s k).1 (s.extract k (k + (nowT s k).2.1)) (nowT s k).2.2 0 := by
  unfold firstV
  rw [strB_ext]
  have hl := firstT_len _ h
  rw [List.length_drop, strB_len] at hl
  have e : (s.extract k s.size).extract 0 (nowT s k).2.1 = s.extract k (k + (nowT s k).2.1) := by
    apply str_extT
    rw [ext_list, ext_list, ext_list]
    have h2 : (firstT ((strB s).drop k)).2.1 = (nowT s k).2.1 := rfl
    rw [h2] at hl
    rw [List.drop_zero, List.take_take]
    congr 1
    omega
  show (if (nowT s k).1 = 0 then _ else tokV (nowT s k).1 ((s.extract k s.size).extract 0 (nowT s k).2.1) (nowT s k).2.2 0) = _
  rw [if_neg h, e]

theorem news_two (w : World) (C : Array Value) (T : TypeId) : ∀ j u, C.toList[j]? = some u → ((w.alloc (.cells C T)).alloc (.cells C T)).cell? ((⟨w.heap.size + 1, 0, none⟩ : Addr).add j) = some u :=
  World.news_of_block (t := T) (fr := (0, 0)) (by
    have h := heap_alloc_new (w.alloc (.cells C T)) (.cells C T)
    have e : (w.alloc (.cells C T)).heap.size = w.heap.size + 1 := by simp
    rw [e] at h
    exact h)
/-- What the loop of Scan keeps. -/
structure ScanInv (K : IntKind) (T : TypeId) (s : ByteArray) (w wr : World) (v : Value) (ts : List Tok) (i : Nat) : Prop where
  row : OwnK K T w.heap.size wr v ts
  len : ts.length ≤ i
  at_ : ScanAt s ts i
  kept : Kept (fun _ => False) w wr

set_option maxRecDepth 100000 in
set_option maxHeartbeats 6400000 in
theorem tscan_any (s : ByteArray) (w : World) (hs : s.size ≤ 1000000) (hS : Sym w) :
    Calls Tryd.prog 11 #[.string s] w fun e w' => ∃ v, e = .returned (.tuple #[v, .int .i64 ((scanS s).2.1 : Nat), .int .i64 ((scanS s).2.2 : Nat)]) ∧ OwnK .u8 31 w.heap.size w' v (scanS s).1 ∧ Kept (fun _ => False) w w' := by
  obtain ⟨i0, hi, hz0, hz1, hz2⟩ := info_parts info_tok
  by_cases h8 : 8000 < s.size
  · have l1 : (8000 : Int) < (s.size : Int) := by omega
    rw [scanS_long h8]
    go_enter Tryd.func11, Tryd.ntmps11
    go_wp2_with fail
    go_ret3
    exact ⟨_, rfl, OwnK.nil _ _ _ _, Kept.refl _ _⟩
  · have l1 : ¬ (8000 : Int) < (s.size : Int) := by omega
    have hsk := skipT_le (strB s) 0 (by omega)
    rw [strB_len] at hsk
    have HSK := Lib.hid (fun W => tskip_any s 0 W (by omega) hs)
    have HS0 := Lib.hid (⟨OwnK.nil .u8 31 w.heap.size w, by simp, ScanAt.start s, Kept.refl _ _⟩ : ScanInv .u8 31 s w w (.slice none 0 0) [] (skipT (strB s) 0))
    generalize skipT (strB s) 0 = i1 at HSK HS0 hsk
    have HS := Lib.hid hS
    obtain ⟨R, hR⟩ : ∃ R, R = scanS s := ⟨_, rfl⟩
    rw [← hR]
    have HR := Lib.hid hR
    clear hR hS
    go_enter Tryd.func11, Tryd.ntmps11
    go_wp2_with fail
    refine (HSK.out _).mono ?_
    rintro e w1 ⟨rfl, rfl⟩
    go_wp2_with fail
    go_loopw [5, 6] (fun lv iv wr => ∃ k : Nat, k ≤ s.size ∧ iv = .int .i64 k ∧ Hid (∃ ts, ScanInv .u8 31 s w wr lv ts k)) (fun _ iv _ => s.size - (intOf iv).toNat)
    case atStart => exact ⟨i1, by omega, rfl, ⟨_, HS0.out⟩⟩
    case round =>
      obtain ⟨k, hk, rfl, hex⟩ := hrel
      obtain ⟨ts, hinv⟩ := hex.out
      have HINV := Lib.hid hinv
      have hlen := hinv.len
      obtain ⟨la, lc, hform, hlc1, hlc2⟩ := hinv.row.form
      subst hform
      have hown := hinv.row
      unfold OwnK at hown
      obtain ⟨N, hN⟩ : ∃ N, N = ts.length := ⟨_, rfl⟩
      rw [← hN] at hlen hlc1 HINV hown ⊢
      have HN0 := Lib.hid hN
      have HOWN := Lib.hid hown
      clear hex hinv hN hown
      have l0 : (0 : Int) ≤ (k : Int) := by omega
      by_cases hlt : k < s.size
      · have l2 : (k : Int) < (s.size : Int) := by omega
        have l3 : (k : Int) ≤ (s.size : Int) := by omega
        have hxs : (s.extract k s.size).size = s.size - k := by rw [ByteArray.size_extract]; omega
        have HF := Lib.hid (fun W (hk : Kept (fun _ => False) w W) => tfirst_any (s.extract k s.size) W (by omega) (by omega) (HS.out.kept hk (fun h => h)))
        by_cases h0 : (nowT s k).1 = 0
        · rw [firstV_no h0] at HF
          have hr : R = ([], k, 8) := by
            rw [HR.out]
            exact scanS_bad h8 (HINV.out.at_.bad hlt h0)
          clear HR h0 hxs
          subst hr
          unfold noTok at HF
          go_wp2_with fail
          refine (HF.out _ HINV.out.kept).mono ?_
          rintro e w2 ⟨rfl, k2⟩
          have K2 := Lib.hid (HINV.out.kept.then k2)
          clear k2
          have hka := fun (W : World) (c : Array Value) => Kept.alloc (fun _ => False) W (.cells c 31)
          go_wp2_with fail
          go_ret3
          exact ⟨_, rfl, OwnK.nil _ _ _ _, K2.out.then (hka _ _)⟩
        · rw [firstV_yes hlt h0] at HF
          have HN := Lib.hid (HINV.out.at_.next hlt h0)
          have hln := firstT_len _ h0
          rw [List.length_drop, strB_len] at hln
          have e2 : (firstT ((strB s).drop k)).2.1 = (nowT s k).2.1 := rfl
          rw [e2] at hln
          have hval := firstT_val ((strB s).drop k)
          have e3 : (firstT ((strB s).drop k)).2.2 = (nowT s k).2.2 := rfl
          rw [e3] at hval
          have hsk2 := skipT_le (strB s) (k + (nowT s k).2.1) (by rw [strB_len]; omega)
          rw [strB_len] at hsk2
          have HSK2 := Lib.hid (fun W => tskip_any s (k + (nowT s k).2.1) W (by omega) hs)
          have hxl : (s.extract k (k + (nowT s k).2.1)).size = (nowT s k).2.1 := by rw [ByteArray.size_extract]; omega
          unfold tokOf at HN
          unfold tokV at HF
          simp only at HN
          generalize s.extract k (k + (nowT s k).2.1) = x at HF HN hxl
          generalize skipT (strB s) (k + (nowT s k).2.1) = k2 at HN HSK2 hsk2
          generalize (nowT s k).1 = kk at h0 HF HN
          generalize (nowT s k).2.2 = vv at hval HF HN
          generalize (nowT s k).2.1 = nn at hln hxl HF HN HSK2 hsk2
          have hb0 : ((kk : Int) == 0) = false := beq_eq_false_iff_ne.2 (by omega)
          have hE : IntKind.i64.wrap ((k : Int) + (nn : Int)) = ((k + nn : Nat) : Int) := by rw [IntWalk.i64_in _ (by omega)]; omega
          clear HSK e2 e3 hxs HR
          go_wp2_with fail
          refine (HF.out _ HINV.out.kept).mono ?_
          rintro e w2 ⟨rfl, q2⟩
          have K2 := Lib.hid q2
          have HOWN2 := Lib.hid (q2.owns HOWN.out (fun _ _ h => h))
          have hbs := (HINV.out.kept.then q2).size
          clear q2
          have hm1 : N + 1 ≤ maxLen := by unfold maxLen; omega
          have hm2 : (N + 1) * 40 ≤ 140737488355328 := by omega
          have hb6 : w.heap.size ≤ ((w2.alloc (.cells #[.int .u8 kk, .string x, .int .i64 vv, .int .i64 k] 31)).alloc (.cells #[.int .u8 kk, .string x, .int .i64 vv, .int .i64 k] 31)).heap.size := by simp; omega
          go_wp2_with (at_builtin; refine wpList_append_lies _ rfl _ _ _ rfl w.heap.size 31 i0 _ 4 40 Tryd.underlying24 hi hz0 hz1 hz2 rfl (by omega) (.slice la N lc) _ _ rfl ((HOWN2.out.alloc _).alloc _) ⟨w2.heap.size + 1, 0, none⟩ 1 1 [.int .u8 kk, .string x, .int .i64 vv, .int .i64 k] rfl rfl (news_two w2 #[.int .u8 kk, .string x, .int .i64 vv, .int .i64 k] 31) (by simp [Value.oneCell']) (by omega) hm1 hm2 hb6 (w2.heap.size + 2) (by simp) ?_)
          intro gg cap w7 hown7 hgrow hat hgl
          have kp : Kept (blk (.slice la N lc)) w2 w7 := ((Kept.alloc (fun _ => False) w2 (.cells #[.int .u8 kk, .string x, .int .i64 vv, .int .i64 k] 31)).then (Kept.alloc (fun _ => False) _ (.cells #[.int .u8 kk, .string x, .int .i64 vv, .int .i64 k] 31))).trans (Kept.ofGrown (S := blk (.slice la N lc)) hgrow fun k e => e) (fun _ _ h => h.elim) (fun _ _ h => h)
          have hbx : w7.cell? ⟨w2.heap.size, 1, none⟩ = some (.string x) := by
            refine ((Kept.ofGrown (S := blk (.slice la N lc)) hgrow fun k e => e).cell (p := ⟨w2.heap.size, 1, none⟩) (by simp; omega) (fun e => absurd (HOWN2.out.lt _ e).2 (Nat.lt_irrefl _))).trans ?_
            go_simp
          have KF : Kept (fun _ => False) w w7 := (HINV.out.kept.then K2.out).trans kp (fun _ _ h => h) (fun i hi e => by have := (HOWN2.out.lt _ e).1; omega)
          have HIV : Hid (∃ ts, ScanInv .u8 31 s w w7 (.slice (some ⟨gg, 0, none⟩) (N + 1) cap) ts k2) := by
            refine ⟨ts ++ [⟨kk, x, (vv : Nat), (k : Nat)⟩], OwnK.push ?_, ?_, HN.out, KF⟩
            · rw [← HN0.out]; exact hown7
            · rw [List.length_append, ← HN0.out]; show N + 1 ≤ k2; omega
          clear hown7 hgrow hat hgl kp KF hm1 hm2 hb6
          go_wp2_with fail
          refine (HSK2.out _).mono ?_
          rintro e w8 ⟨rfl, rfl⟩
          go_wp2_with fail
          go_roundw
          case rel => first | exact ⟨k2, by omega, by go_num, HIV⟩ | ((repeat apply Exists.intro); exact ⟨⟨k2, by omega, by go_num, HIV⟩, rfl⟩)
          case measure => simp [intOf]; omega
      · obtain rfl : k = s.size := by omega
        obtain ⟨d1, d2⟩ := HINV.out.at_.done hlt
        have hr : R = (ts ++ [endTok s], 0, 0) := by
          rw [HR.out, scanS_ok h8 d2, d1]
        clear HR d1 d2 hlt
        subst hr
        have hbs := HINV.out.kept.size
        have hm1 : N + 1 ≤ maxLen := by unfold maxLen; omega
        have hm2 : (N + 1) * 40 ≤ 140737488355328 := by omega
        have hb6 : w.heap.size ≤ (wr.alloc (.cells #[.int .u8 0, .string ⟨#[]⟩, .int .i64 0, .int .i64 s.size] 31)).heap.size := by simp; omega
        go_wp2_with (at_builtin; refine wpList_append_lies _ rfl _ _ _ rfl w.heap.size 31 i0 _ 4 40 Tryd.underlying24 hi hz0 hz1 hz2 rfl (by omega) (.slice la N lc) _ _ rfl (HOWN.out.alloc _) ⟨wr.heap.size, 0, none⟩ 1 1 [.int .u8 0, .string ⟨#[]⟩, .int .i64 0, .int .i64 s.size] rfl rfl (World.news_of_block (cs := #[.int .u8 0, .string ⟨#[]⟩, .int .i64 0, .int .i64 s.size]) (t := 31) (fr := (0, 0)) (heap_alloc_new wr _)) (by simp [Value.oneCell']) (by omega) hm1 hm2 hb6 (wr.heap.size + 1) (by simp) ?_)
        intro gg cap w7 hown7 hgrow hat hgl
        have kp : Kept (blk (.slice la N lc)) wr w7 := (Kept.alloc (fun _ => False) wr (.cells #[.int .u8 0, .string ⟨#[]⟩, .int .i64 0, .int .i64 s.size] 31)).trans (Kept.ofGrown (S := blk (.slice la N lc)) hgrow fun k e => e) (fun _ _ h => h.elim) (fun _ _ h => h)
        have KF : Kept (fun _ => False) w w7 := HINV.out.kept.trans kp (fun _ _ h => h) (fun i hi e => by have := (HOWN.out.lt _ e).1; omega)
        have HE : Hid (OwnK .u8 31 w.heap.size w7 (.slice (some ⟨gg, 0, none⟩) (N + 1) cap) (ts ++ [endTok s]) ∧ Kept (fun _ => False) w w7) := by
          refine ⟨OwnK.push ?_, KF⟩
          rw [← HN0.out]; exact hown7
        clear hown7 hgrow hat hgl kp KF hm1 hm2 hb6
        go_wp2_with fail
        go_ret3
        exact ⟨_, rfl, HE.out⟩
end Go.Proofs.YthkjcgcfbodgbaaDoor
