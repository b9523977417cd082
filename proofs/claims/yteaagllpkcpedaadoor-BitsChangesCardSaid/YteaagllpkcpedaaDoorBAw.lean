/-
  arbaclaw01.awake: the chapter's examples hold.
-/
import Derived.Test.YteaagllpkcpedaaDoorBPar
import Derived.Test.YteaagllpkcpedaaDoorBCo
import Derived.Test.YteaagllpkcpedaaDoorBBe
import Derived.Test.YteaagllpkcpedaaDoorBEq
import Derived.Test.YteaagllpkcpedaaDoorRead
import Derived.Test.YteaagllpkcpedaaDoorMembers
namespace Go.Proofs.YteaagllpkcpedaaDoor
open Go.RowKit

theorem rd_lit (w : World) (cs : Array Value) (T : TypeId) (xs : List Nat) (n : Nat) (hn : n = xs.length) (hcs : cs.toList = bv xs) (hm : xs.length ≤ maxLen) :
    Reads (w.alloc (.cells cs T)) (.slice (some ⟨w.heap.size, 0, none⟩) n n) xs := by
  subst hn
  refine Or.inr ⟨w.heap.size, 0, xs.length, rfl, Nat.le_refl _, hm, by simp, fun i hi => ?_⟩
  rw [Nat.zero_add, cell_of_row _ w.heap.size i cs T (0, 0) (heap_alloc_new w _), ← Array.getElem?_toList, hcs, bv_getD xs i hi]
theorem it_lit (w : World) (cs : Array Value) (T : TypeId) (xs : List Int) (n : Nat) (hn : n = xs.length) (hcs : cs.toList = xs.map (Value.int .i64)) (hm : xs.length ≤ maxLen) :
    Ints (w.alloc (.cells cs T)) (.slice (some ⟨w.heap.size, 0, none⟩) n n) xs := by
  subst hn
  refine Or.inr ⟨w.heap.size, 0, xs.length, rfl, Nat.le_refl _, hm, by simp, fun i hi => ?_⟩
  rw [Nat.zero_add, cell_of_row _ w.heap.size i cs T (0, 0) (heap_alloc_new w _), ← Array.getElem?_toList, hcs]
  simp [List.getD, hi]

theorem parse_bad (w : World) (s : ByteArray) (hs : s.size ≤ 4000) (hL : Libs w) (h : ∀ M, textS M ≠ s.data.toList) :
    Calls Tryd.prog 25 #[.string s] w fun e w' => e = .returned (.tuple #[.agg #[.int .u64 0, .slice none 0 0], .int .i64 6]) ∧ Kept (fun _ => False) w w' := by
  refine (parse_any w s hs hL).mono ?_
  rintro e w' ⟨⟨_, rfl⟩ | ⟨v, M, h1, _⟩, hk⟩
  · exact ⟨rfl, hk⟩
  · exact absurd (parseS_text h1).1 (h M)

/-- Of written-out numbers. -/
theorem of_lit (w : World) (cs : Array Value) (T : TypeId) (xs : List Int) (M n : Nat) (hn : n = xs.length) (hcs : cs.toList = xs.map (Value.int .i64)) (hm : xs.length ≤ maxLen) (hM : maskOf xs = M) :
    Calls Tryd.prog 12 #[.slice (some ⟨w.heap.size, 0, none⟩) n n] (w.alloc (.cells cs T)) fun e w' => ∃ lo a l c, e = .returned (.agg #[.int .u64 (lo : Nat), .slice a l c]) ∧ SetV w' (.agg #[.int .u64 (lo : Nat), .slice a l c]) M ∧ Small M ∧ Kept (fun _ => False) w w' := by
  refine (of_any _ _ xs (it_lit w cs T xs n hn hcs hm)).mono ?_
  rintro e w' ⟨v, rfl, hset, _, hk⟩
  have hset0 := hset
  obtain ⟨hv, hs, rfl, hw, _, _⟩ := hset.ex
  obtain ⟨a, c, rfl⟩ := hw.form
  exact ⟨_, a, _, c, rfl, by rw [← hM]; exact hset0, by rw [← hM]; exact maskOf_small _, (Kept.alloc _ _ _).then hk⟩

theorem cmp_514_4 {r : Int} (h : CmpIs 514 4 r) : r = -1 := by
  rcases h with ⟨h, _⟩ | ⟨d, hd, rfl⟩
  · exact absurd h (by decide)
  · have : d = 1 := hd.uniq ⟨by decide, fun i hi => by
      have : i = 0 := by omega
      subst this; decide⟩
    subst this
    have h1 : Nat.log2 4 = 2 := by decide
    unfold cmpAt
    rw [if_neg (by decide), if_neg (by rw [h1]; omega)]
theorem cmp_514_2 {r : Int} (h : CmpIs 514 2 r) : r = 1 := by
  rcases h with ⟨h, _⟩ | ⟨d, hd, rfl⟩
  · exact absurd h (by decide)
  · have : d = 9 := hd.uniq ⟨by decide, fun i hi => by
      have : ∀ j : Fin 9, Nat.testBit 514 j.val = Nat.testBit 2 j.val := by decide
      exact this ⟨i, hi⟩⟩
    subst this
    have h1 : Nat.log2 2 = 1 := by decide
    unfold cmpAt
    rw [if_neg (by decide), if_pos (by rw [h1]; omega)]

set_option maxRecDepth 100000 in
set_option maxHeartbeats 3200000 in
theorem aw_any (w : World) (hL : Libs w) : Calls Tryd.prog 9 #[] w fun e w' => e = .returned (.bool true) ∧ Kept (fun _ => False) w w' := by
  have HL := Lib.hid hL
  clear hL
  go_enter Tryd.func9, Tryd.ntmps9
  go_wp2_with fail
  refine (of_lit w _ _ [5, 1, 5, -3, 5000] 34 5 rfl rfl (by decide) (by decide)).mono ?_
  rintro e w1 ⟨lo, a, l, c, rfl, hs1, hm1, k1⟩
  have HS1 := Lib.hid hs1; have HM1 := Lib.hid hm1; have K1 := Lib.hid (k1.then (Kept.alloc (fun _ => False) w1 (.cells #[.int .u64 lo, .slice a l c] 28)))
  have HB : Hid (∀ W, Kept (fun _ => False) (w1.alloc (.cells #[.int .u64 lo, .slice a l c] 28)) W → W.cell? ⟨w1.heap.size, 0, none⟩ = some (.int .u64 (lo : Int)) ∧ W.cell? ⟨w1.heap.size, 1, none⟩ = some (.slice a l c)) := fun W hk => ⟨(box_cells hk (fun h => h)).1, (box_cells hk (fun h => h)).2.1⟩
  have KB := Lib.hid (Kept.alloc (fun _ => False) w1 (.cells #[.int .u64 lo, .slice a l c] 28))
  clear hs1 hm1 k1
  go_wp2_with fail
  refine (parse_bad _ _ (by decide) (HL.out.kept K1.out) text_bad1).mono ?_
  rintro e w2 ⟨rfl, k2⟩
  have K2 := Lib.hid (k2.then (Kept.alloc (fun _ => False) w2 (.cells #[.int .u64 0, .slice none 0 0] 28)))
  clear k2
  go_wp2_with fail
  refine (parse_bad _ _ (by decide) (HL.out.kept (K1.out.then K2.out)) text_bad2).mono ?_
  rintro e w3 ⟨rfl, k3⟩
  have K3 := Lib.hid (K2.out.then (k3.then (Kept.alloc (fun _ => False) w3 (.cells #[.int .u64 0, .slice none 0 0] 28))))
  clear k3
  go_wp2_with fail
  have hrd := rd_lit (w3.alloc (.cells #[.int .u64 0, .slice none 0 0] 28)) #[.int .u8 1, .int .u8 0] 5 [1, 0] 2 rfl rfl (by decide)
  rw [World.size_alloc] at hrd
  refine (read_bad _ _ [1, 0] hrd (Or.inr ⟨by decide, by decide⟩)).mono ?_
  rintro e w4 ⟨rfl, k4⟩
  have K4 := Lib.hid (K3.out.then (((Kept.alloc (fun _ => False) _ _).then k4).then (Kept.alloc (fun _ => False) w4 (.cells #[.int .u64 0, .slice none 0 0] 28))))
  clear k4 hrd
  obtain ⟨b0, b1⟩ := HB.out _ K4.out
  go_wp2_with fail
  have hL4 := HL.out.kept (K1.out.then K4.out)
  refine (text_any _ _ 34 (HS1.out.onC (KB.out.then K4.out)) HM1.out hL4.tz hL4.tabP).mono ?_
  rintro e w5 ⟨rfl, k5⟩
  rw [text_34]
  have K5 := Lib.hid (K4.out.then k5)
  clear k5 hL4
  obtain ⟨b0, b1⟩ := HB.out _ K5.out
  go_wp2_with fail
  refine (bytes_any _ _ 34 (HS1.out.onC (KB.out.then K5.out)) HM1.out).mono ?_
  rintro e w6 ⟨v6, rfl, hf6, k6⟩
  have K6 := Lib.hid (K5.out.then k6)
  have HF6 := Lib.hid hf6
  clear k6 hf6 b0 b1
  go_wp2_with fail
  have heq := equalb_any (w6.alloc (.cells #[.int .u8 34] 5)) v6 (.slice (some ⟨w6.heap.size, 0, none⟩) 1 1) (bytesOf 34) [34] (HF6.out.reads.kept (Kept.alloc (fun _ => False) _ _) (fun _ _ h => h)) (rd_lit w6 #[.int .u8 34] 5 [34] 1 rfl rfl (by decide))
  rw [show decide (bytesOf 34 = [34]) = true by decide +kernel] at heq
  refine heq.mono ?_
  rintro e w7 ⟨rfl, k7⟩
  have K7 := Lib.hid (K6.out.then ((Kept.alloc (fun _ => False) _ _).then k7))
  clear k7 heq
  go_wp2_with fail
  refine (below_any _ 3).mono ?_
  rintro e w8 ⟨v8, rfl, hs8, _, k8⟩
  have HS8 := Lib.hid hs8
  have K8 := Lib.hid (K7.out.then k8)
  clear hs8 k8
  go_wp2_with fail
  refine (of_lit w8 _ _ [1] 2 1 rfl rfl (by decide) (by decide)).mono ?_
  rintro e w9 ⟨lo9, a9, l9, c9, rfl, hs9, hm9, k9⟩
  have HS9 := Lib.hid hs9; have HM9 := Lib.hid hm9
  have K89 := Lib.hid k9
  have K9 := Lib.hid (K8.out.then k9)
  clear hs9 hm9 k9
  go_wp2_with fail
  refine (minus_any _ _ _ 7 2 (HS8.out.onC K89.out) HS9.out (ones_small 3 (by omega)) HM9.out).mono ?_
  rintro e w10 ⟨v10, rfl, hs10, _, k10⟩
  have HS10 := Lib.hid hs10
  have K10 := Lib.hid (K9.out.then k10)
  clear hs10 k10
  go_wp2_with fail
  have hT10 := (HL.out.kept (K1.out.then K10.out)).tz
  refine (list_any _ _ _ HS10.out (small_an (ones_small 3 (by omega))) hT10).mono ?_
  rintro e w11 ⟨v11, rfl, hr11, _, k11⟩
  rw [show memM (anN 7 2) 4096 = [0, 2] by decide +kernel] at hr11
  have HI11 := Lib.hid (Ints.ofOwns (xs := [0, 2]) hr11)
  have K11 := Lib.hid (K10.out.then k11)
  clear hr11 k11 hT10
  go_wp2_with fail
  have heq := equali_any (w11.alloc (.cells #[.int .i64 0, .int .i64 2] 3)) v11 (.slice (some ⟨w11.heap.size, 0, none⟩) 2 2) [0, 2] [0, 2] (HI11.out.kept (Kept.alloc (fun _ => False) _ _) (fun _ _ h => h)) (it_lit w11 #[.int .i64 0, .int .i64 2] 3 [0, 2] 2 rfl rfl (by decide))
  rw [show decide (([0, 2] : List Int) = [0, 2]) = true by decide] at heq
  refine heq.mono ?_
  rintro e w12 ⟨rfl, k12⟩
  have K12 := Lib.hid (K11.out.then ((Kept.alloc (fun _ => False) _ _).then k12))
  clear k12 heq
  go_wp2_with fail
  refine (of_lit w12 _ _ [1, 9] 514 2 rfl rfl (by decide) (by decide)).mono ?_
  rintro e w13 ⟨lo13, a13, l13, c13, rfl, hs13, hm13, k13⟩
  have HS13 := Lib.hid hs13; have HM13 := Lib.hid hm13
  have K13 := Lib.hid (K12.out.then k13)
  clear hs13 hm13 k13
  go_wp2_with fail
  refine (of_lit w13 _ _ [2] 4 1 rfl rfl (by decide) (by decide)).mono ?_
  rintro e w14 ⟨lo14, a14, l14, c14, rfl, hs14, hm14, k14⟩
  have HS14 := Lib.hid hs14; have HM14 := Lib.hid hm14
  have K134 := Lib.hid k14
  have K14 := Lib.hid (K13.out.then k14)
  clear hs14 hm14 k14
  go_wp2_with fail
  refine (compare_any _ _ _ 514 4 (HS13.out.onC K134.out) HS14.out HM13.out HM14.out (HL.out.kept (K1.out.then K14.out)).tz).mono ?_
  rintro e w15 ⟨⟨r, hr, rfl⟩, k15⟩
  obtain rfl := cmp_514_4 hr
  have K15 := Lib.hid (K14.out.then k15)
  clear hr k15
  go_wp2_with fail
  refine (of_lit w15 _ _ [1, 9] 514 2 rfl rfl (by decide) (by decide)).mono ?_
  rintro e w16 ⟨lo16, a16, l16, c16, rfl, hs16, hm16, k16⟩
  have HS16 := Lib.hid hs16; have HM16 := Lib.hid hm16
  have K16 := Lib.hid (K15.out.then k16)
  clear hs16 hm16 k16
  go_wp2_with fail
  refine (of_lit w16 _ _ [1] 2 1 rfl rfl (by decide) (by decide)).mono ?_
  rintro e w17 ⟨lo17, a17, l17, c17, rfl, hs17, hm17, k17⟩
  have HS17 := Lib.hid hs17; have HM17 := Lib.hid hm17
  have K167 := Lib.hid k17
  have K17 := Lib.hid (K16.out.then k17)
  clear hs17 hm17 k17
  go_wp2_with fail
  refine (compare_any _ _ _ 514 2 (HS16.out.onC K167.out) HS17.out HM16.out HM17.out (HL.out.kept (K1.out.then K17.out)).tz).mono ?_
  rintro e w18 ⟨⟨r, hr, rfl⟩, k18⟩
  obtain rfl := cmp_514_2 hr
  have K18 := Lib.hid (K1.out.then (K17.out.then k18))
  clear hr k18
  go_wp2_with fail
  go_ret
  exact ⟨rfl, K18.out⟩
end Go.Proofs.YteaagllpkcpedaaDoor
