/-
  arbaclaw04.CrcSets returns true.
-/
import Derived.Test.YtncieckanngodaaDoorCrcSq
import Derived.Test.YtncieckanngodaaDoorCrcA
import Derived.Test.YtncieckanngodaaDoorAppR
import Derived.Test.YtncieckanngodaaDoorCrcV
import Derived.Test.YtncieckanngodaaDoorMake
import Derived.Deep.RegionHeld3
namespace Go.Proofs.YtncieckanngodaaDoor
open Go.RowKit

theorem pays_frs (ps : List (List Nat)) (hb : ∀ p ∈ ps, ∀ x ∈ p, x < 256) (hl : ∀ p ∈ ps, p.length ≤ 9000) : pays (frs ps) = ps ∧ (lens (frs ps)).sum = (frs ps).length := by
  have h := frs_cut ps hb hl (frs ps).length (Nat.le_refl _)
  rw [List.take_length] at h
  have hc : ps.take (cnt (frs ps).length ps) = ps := by
    by_cases h0 : ps.length = 0
    · rw [List.eq_nil_of_length_eq_zero h0]; simp
    · have := (frs_end ps (frs ps).length (ps.length - 1) (by omega)).1 (by rw [show ps.length - 1 + 1 = ps.length by omega, List.take_length]; exact Nat.le_refl _)
      exact List.take_of_length_le (by omega)
  rw [hc] at h
  exact h

theorem setS_pay {M : Nat} (h : Small M) : setS (payM M) 4095 0 = (M, [], 0) := by
  have h1 := setS_enc [] 4095 h
  rw [List.append_nil, if_neg (by
    rintro ⟨h0, h2⟩
    have := log2_small h h0
    omega)] at h1
  exact h1
theorem payN_at (F : Nat → List Nat) (k i : Nat) (h : i < k) : (payN F k).getD i [] = payM ((MsN F k).getD i 0) := by
  simp [payN, MsN, List.getD, h]

theorem row_form {w : World} {B : Nat} {e : TypeId} {s : Nat} {v : Value} {n : Nat} {xs : List Value} (h : w.ownsRow B e s v n xs) : ∃ a c, v = .slice a n c ∧ (0 < n → ∃ g, a = some ⟨g, 0, none⟩) ∧ n ≤ c := by
  obtain ⟨_, hh⟩ := h
  rcases hh with ⟨e, rfl⟩ | ⟨g', cap', cur, e, _, _, hc, _⟩
  · exact ⟨_, _, e, fun h => by omega, Nat.le_refl _⟩
  · exact ⟨_, _, e, fun _ => ⟨_, rfl⟩, hc⟩

/-- What the inner loop keeps: the set so far lies in its block. -/
def InInv (B pb : Nat) (w2 wr : World) (ys : List Nat) (j : Nat) : Prop :=
  ∃ p, BoxS wr pb p (maskH (ys.take j)) ∧ (∀ k, setBlk (pairV p) k → B ≤ k) ∧ Kept (fun i => i = pb) w2 wr

theorem InInv.start (w1 : World) (ys : List Nat) : InInv w1.heap.size w1.heap.size (w1.alloc (.cells #[.int .u64 0, .slice none 0 0] 54)) (w1.alloc (.cells #[.int .u64 0, .slice none 0 0] 54)) ys 0 := by
  refine ⟨(0, .slice none 0 0), ⟨?_, ?_, ?_, ?_, by simp, setv_none _, ?_⟩, ?_, Kept.refl _ _⟩
  · show _ = some (Value.int .u64 0); go_simp
  · go_simp
  · go_simp
  · go_simp
  · rintro k ⟨lo, hv, he, hb⟩
    cases he
    simp [Value.ownBlock] at hb
  · rintro k ⟨lo, hv, he, hb⟩
    cases he
    simp [Value.ownBlock] at hb

set_option maxRecDepth 100000 in
set_option maxHeartbeats 3200000 in
theorem crcsets_at (a0 : Option Addr) (N c0 : Nat) (f : Nat → Value) (F : Nat → List Nat) (w : World) (hT : Tab w) (hl : LH w (.slice a0 N c0) f F N w.heap.size) (hN : N ≤ c0) (hc0 : c0 ≤ 9223372036854775807) :
    Calls Tryd.prog 6 #[.slice a0 N c0] w fun e w' => e = .returned (.bool true) ∧ Kept (fun _ => False) w w' := by
  obtain ⟨i0, hi, hz0, hz1, hz2⟩ := info_parts info_bset
  obtain ⟨K, hK⟩ : ∃ K, K = min N 6 := ⟨_, rfl⟩
  have hmin : min (N : Int) 6 = (K : Int) := by omega
  have hK0 : (0 : Int) ≤ (K : Int) := by omega
  have hK1 : (K : Int) ≤ (N : Int) := by omega
  have hK2 : (K : Int) ≤ (c0 : Int) := by omega
  have hK3 : K ≤ c0 := by omega
  have hK4 : K ≤ N := by omega
  have hK5 : K ≤ 6 := by omega
  have HLK := Lib.hid (hl.cut K hK4); have HT := Lib.hid hT
  clear hl hT hK
  go_enter Tryd.func6, Tryd.ntmps6
  go_wp2_with fail
  refine (awake4_any w HT.out).mono ?_
  rintro e w0 ⟨rfl, hk0⟩
  have HI0 := Lib.hid (SetsInv.start w w0 F hk0)
  clear hk0
  go_wp2_with fail
  go_loopw [3, 4, 27] (fun sv av iv wr => ∃ k : Nat, k ≤ K ∧ iv = .int .i64 k ∧ Hid (SetsInv w wr F sv av k)) (fun _ _ iv _ => K - (intOf iv).toNat)
  case atStart => exact ⟨0, by omega, rfl, HI0⟩
  case round =>
    obtain ⟨k, hk, rfl, hinv⟩ := hrel
    have hkw := hinv.out.kept
    obtain ⟨aa, ca, hfa⟩ := hinv.out.all.reads.form
    subst hfa
    by_cases hlt : k < K
    · have hl1 : (k : Int) < (K : Int) := by omega
      have hl0 : (0 : Int) ≤ (k : Int) := by omega
      obtain ⟨g, off, ha0, hg, hcell, hloose, hbyk⟩ := (HLK.out.kept hkw (Nat.le_refl _)).at (k := k) hlt
      subst ha0
      have HLO := Lib.hid hloose; have HBK := Lib.hid hbyk; have HKW := Lib.hid hkw
      clear hloose hbyk hkw
      generalize hfk : f k = fk at hcell HLO
      have HFK := Lib.hid hfk
      clear hfk
      obtain ⟨pa, pc, hpf⟩ := HLO.out.form
      subst hpf
      obtain ⟨n, hn⟩ : ∃ n, n = (F k).length := ⟨_, rfl⟩
      rw [← hn] at hcell HLO
      have HNN := Lib.hid hn; clear hn
      have hpc : n ≤ pc := by
        rcases HLO.out with ⟨h | ⟨g', off', cap, h, h2, _⟩, _⟩ | ⟨x, h, _⟩
        · cases h.1; omega
        · cases h; rw [HNN.out]; exact h2
        · cases h; omega
      obtain ⟨L, hL⟩ : ∃ L, L = min n 20 := ⟨_, rfl⟩
      have hmin2 : min (n : Int) 20 = (L : Int) := by omega
      have m0 : (0 : Int) ≤ (L : Int) := by omega
      have m1 : (L : Int) ≤ (n : Int) := by omega
      have m2 : (L : Int) ≤ (pc : Int) := by omega
      have m3 : L ≤ pc := by omega
      have m4 : L ≤ n := by omega
      have m5 : L ≤ 20 := by omega
      have hyl : ((F k).take 20).length = L := by rw [List.length_take, ← HNN.out, hL]; omega
      obtain ⟨ys, hys⟩ : ∃ ys, ys = (F k).take 20 := ⟨_, rfl⟩
      rw [← hys] at hyl
      have HYL := Lib.hid hyl; have HYS := Lib.hid hys
      clear hL hyl hys
      obtain ⟨wo, rfl⟩ : ∃ wo : World, wo = wr := ⟨_, rfl⟩
      go_wp2_with fail
      refine (of_nil wo).mono ?_
      rintro e w1 ⟨rfl, hk1⟩
      have HK1 := Lib.hid hk1
      clear hk1
      go_wp2_with fail
      have HIN := Lib.hid (InInv.start w1 ys)
      have hpb : wo.heap.size ≤ w1.heap.size := HK1.out.size
      have hw2 : Hid (Kept (fun _ => False) wo (w1.alloc (.cells #[.int .u64 0, .slice none 0 0] 54))) := HK1.out.then (Kept.alloc _ _ _)
      have hpb2 : w1.heap.size < (w1.alloc (.cells #[.int .u64 0, .slice none 0 0] 54)).heap.size := by simp
      generalize w1.alloc (.cells #[.int .u64 0, .slice none 0 0] 54) = w2 at HIN hw2 hpb2 ⊢
      generalize w1.heap.size = pb at *
      go_loopw [38] (fun iv wr => ∃ j : Nat, j ≤ L ∧ iv = .int .i64 j ∧ Hid (InInv pb pb w2 wr ys j)) (fun iv _ => L - (intOf iv).toNat)
      case atStart => exact ⟨0, by omega, rfl, HIN⟩
      case round =>
        obtain ⟨j, hj, rfl, hin⟩ := hrel
        obtain ⟨⟨lo, hv⟩, hbox, hblk, hk2⟩ := hin.out
        obtain ⟨lo', sa, sn, sc, hform⟩ := hbox.set.form
        obtain ⟨rfl, rfl⟩ : lo = lo' ∧ hv = .slice sa sn sc := by
          simp [pairV] at hform
          exact ⟨by omega, hform.2⟩
        by_cases hjt : j < L
        · have t1 : (j : Int) < (L : Int) := by omega
          have t0 : (0 : Int) ≤ (j : Int) := by omega
          obtain ⟨y, hy⟩ : ∃ y, y = (F k).getD j 0 := ⟨_, rfl⟩
          have hnF := HNN.out
          have hjF : j < (F k).length := by omega
          obtain ⟨g2, off2, hpa, hcy⟩ : ∃ g2 off2, pa = some ⟨g2, off2, none⟩ ∧ wr.cell? ⟨g2, off2 + j, none⟩ = some (.int .u16 (y : Int)) := by
            rcases HLO.out with ⟨⟨h, h2⟩ | ⟨g', off', cap, h, _, _, h3, h4⟩, _⟩ | ⟨x, h, h2⟩
            · rw [h2] at hjF; simp at hjF
            · cases h
              refine ⟨g', off', rfl, ?_⟩
              have q1 := hw2.out.cell (p := ⟨g', off' + j, none⟩) h3 (fun h => h)
              have q2 := hk2.cell (p := ⟨g', off' + j, none⟩) (Nat.lt_of_lt_of_le h3 hw2.out.size) (fun e => by have e : g' = pb := e; omega)
              rw [q2, q1, h4 j hjF, ← hy]
            · rw [h2] at hjF; simp at hjF
          subst hpa
          have hyl : y < 65536 := by
            rw [hy, List.getD_eq_getElem?_getD, List.getElem?_eq_getElem hjF]
            exact HBK.out _ (List.getElem_mem _)
          have hyy : ys.getD j 0 = y := by
            rw [HYS.out, hy, List.getD_eq_getElem?_getD, List.getD_eq_getElem?_getD, List.getElem?_take_of_lt (by omega)]
          have hmt := maskH_take ys j (by rw [HYL.out]; exact hjt)
          rw [hyy] at hmt
          obtain ⟨m, hm⟩ : ∃ m, m = y % 512 := ⟨_, rfl⟩
          rw [← hm] at hmt
          have hm5 : m ≤ 4095 := by omega
          have HWI := Lib.hid (with_any wr _ (maskH (ys.take j)) m hbox.set (maskH_small _) hm5)
          have HBX := Lib.hid hbox; have HBL := Lib.hid hblk; have HK2 := Lib.hid hk2
          have hE : IntKind.i64.wrap (y : Int) = (y : Int) ∧ (y : Int).tmod 512 = (m : Int) ∧ (y : Int) % 512 = (m : Int) := ⟨IntWalk.i64_in _ (by omega), by rw [Int.tmod_eq_emod_of_nonneg (by omega)]; omega, by omega⟩
          have HMT := Lib.hid hmt
          clear hmt hform hin hyy hnF hy hm hyl
          obtain ⟨e1, e2, e3⟩ := hE
          obtain ⟨c0', c1', _, _, _, _, _⟩ := hbox
          go_wp2_with fail
          refine HWI.out.mono ?_
          rintro e wr2 ⟨v', rfl, hset', hblk', hk'⟩
          obtain ⟨lo2, sa2, sn2, sc2, rfl⟩ := hset'.form
          have hbx2 := HBX.out.kept hk' (fun _ _ h => h)
          have hb2 : ∀ k, setBlk (pairV (lo2, .slice sa2 sn2 sc2)) k → pb ≤ k ∧ k ≠ pb := fun k hk => by
            rcases hblk' k hk with h | h
            · exact ⟨HBL.out k h, HBX.out.apart k h⟩
            · have := HBX.out.lt; exact ⟨by omega, by omega⟩
          have hput := hbx2.put (q := (lo2, .slice sa2 sn2 sc2)) hset' (fun k hk => (hb2 k hk).2)
          have HIN2 : Hid (InInv pb pb w2 ((wr2.setCell ⟨pb, 0, none⟩ (.int .u64 (lo2 : Int))).setCell ⟨pb, 1, none⟩ (.slice sa2 sn2 sc2)) ys (j + 1)) :=
            ⟨(lo2, .slice sa2 sn2 sc2), by rw [HMT.out]; exact hput, fun k hk => (hb2 k hk).1, (HK2.out.trans hk' (fun _ _ h => h) (fun _ _ h => h.elim) (T := fun i => i = pb)).trans ((Kept.setCell (fun k => k = pb) wr2 ⟨pb, 0, none⟩ _ rfl).trans (Kept.setCell (fun k => k = pb) _ ⟨pb, 1, none⟩ _ rfl) (fun _ _ h => h) (fun _ _ h => h)) (fun _ _ h => h) (fun _ _ h => h)⟩
          obtain ⟨d0, d1, d2, d3, _, _, _⟩ := hbx2
          clear hput hb2 hset' hblk' hk' c0' c1' e1 e2 e3
          go_wp2_with fail
          go_roundw
          case rel => exact ⟨j + 1, by omega, by go_num, HIN2⟩
          case measure => simp [intOf]; omega
        · obtain rfl : j = L := by omega
          rw [← HYL.out, List.take_length] at hbox
          have HBX := Lib.hid hbox; have HBL := Lib.hid hblk
          have hkw2 := (hw2.out).trans hk2 (T := fun _ => False) (fun _ _ h => h) (fun i hi e => by omega)
          have HKW2 := Lib.hid hkw2
          clear hform hin hblk hk2 hkw2
          obtain ⟨c0', c1', _, _, _, _, _⟩ := hbox
          go_wp2_with fail
          refine (newWriter_any wr).mono ?_
          rintro e w3 ⟨rfl, hw3⟩
          have hwr3 : Wr w3 wr.heap.size (.slice none 0 0) wr.heap.size [] := by rw [hw3]; exact wr_new wr wr.heap.size (Nat.le_refl _)
          have hk3 : Kept (fun _ => False) wr w3 := by rw [hw3]; exact Kept.alloc _ _ _
          clear hw3 c0' c1'
          have hbx3 := HBX.out.kept hk3 (fun _ _ h => h)
          obtain ⟨wb, hwb⟩ : ∃ wb, wr.heap.size = wb := ⟨_, rfl⟩
          have hs3 := hk3.size
          rw [hwb] at hwr3 hs3 ⊢
          have HWB := Lib.hid hwb; clear hwb
          have HWS := Lib.hid (wset_any _ (maskH ys) (maskH_small ys) w3 wb _ wb [] hwr3 hbx3.set (by simp) hs3)
          obtain ⟨c3, c4, _, _, _, _, _⟩ := hbx3
          have HK3 := Lib.hid hk3
          clear hk3 hwr3
          go_wp2_with fail
          refine HWS.out.mono ?_
          rintro e w4 ⟨rfl, v4, hwr4, hstep⟩
          rw [List.nil_append] at hwr4
          change Wr w4 wb v4 wb (payM (maskH ys)) at hwr4
          have hk4 : Kept (fun _ => False) wr w4 := HK3.out.trans hstep.kept (fun _ _ h => h) (fun i hi e => by
            have := HWB.out
            rcases e with e | e
            · omega
            · simp [blk, Value.ownBlock] at e)
          have hpl := payM_len (maskH_small ys)
          have hpby := payM_byte (maskH ys)
          have hfin : payN F (k + 1) = payN F k ++ [payM (maskH ys)] := by rw [payN_succ, ← HYS.out]
          have hfinM : MsN F (k + 1) = MsN F k ++ [maskH ys] := by rw [MsN_succ, ← HYS.out]
          generalize payM (maskH ys) = us at hwr4 hpl hpby hfin
          have HW4 := Lib.hid hwr4; have HK4 := Lib.hid hk4; have HUB := Lib.hid hpby; have HFN := Lib.hid hfin; have HFM := Lib.hid hfinM
          clear hwr4 hk4 hpby hfin hfinM hstep c3 c4
          go_wp2_with fail
          refine (out_any w4 wb v4 us HW4.out.reads (by omega) HW4.out.cell).mono ?_
          rintro e w5 ⟨v5, rfl, hf5, hk5⟩
          obtain ⟨a5, c5, hv5⟩ := hf5.reads.form
          subst hv5
          have HF5 := Lib.hid hf5.reads; have HK5 := Lib.hid (HK4.out.then hk5)
          clear hf5 hk5
          go_wp2_with fail
          refine (frame_any _ us w5 HF5.out HUB.out (by omega) (HT.out.kept (HKW2.out.then HK5.out |> fun h => HKW.out.then h) (fun h => h))).mono ?_
          rintro e w6 ⟨v6, rfl, hf6, hk6⟩
          have hfl := frameS_length us
          obtain ⟨a6, c6, hv6⟩ := hf6.reads.form
          subst hv6
          have hk16 := HK5.out.then hk6
          have hbx6 := HBX.out.kept hk16 (fun _ _ h => h)
          have HF6 := Lib.hid hf6; have HK6 := Lib.hid (HKW2.out.then hk16); have HX6 := Lib.hid hbx6
          have hsz6 := hk16.size
          have hfl2 : (frameS us).length ≤ 700 := by omega
          obtain ⟨fs, hfs⟩ : ∃ fs, fs = frameS us := ⟨_, rfl⟩
          rw [← hfs] at HF6 hfl2 ⊢
          have HFS := Lib.hid hfs
          obtain ⟨d0, d1, _, _, _, _, _⟩ := hbx6
          clear hf6 hk6 hk16 hfl hfs hpl
          obtain ⟨vs, hside⟩ := hinv.out.side
          have hvl : vs.length = k := by rw [hside.sets.len, MsN_length]
          have hulo := hside.sets.own.lt
          have halo := hside.all.own.lt
          have hwo := hside.kept.size
          have SD := Lib.hid (hside.then HK6.out)
          have HVL := Lib.hid hvl; have HUL := Lib.hid hulo; have HAL := Lib.hid halo
          have hm1 : vs.length + 1 ≤ maxLen := by unfold maxLen; omega
          have hm2 : (vs.length + 1) * 32 ≤ 140737488355328 := by omega
          have hb6 : w.heap.size ≤ (w6.alloc (.cells #[.int .u64 lo, .slice sa sn sc] 54)).heap.size := by have := HK6.out.size; simp; omega
          clear hside hvl hulo halo
          go_wp2_with (at_builtin; refine wpList_append_lies _ rfl _ _ _ rfl w.heap.size 54 i0 _ 2 32 Tryd.underlying50 hi hz0 hz1 hz2 rfl (by omega) u3 _ _ rfl (SD.out.sets.own.alloc _) ⟨w6.heap.size, 0, none⟩ 1 1 [.int .u64 lo, .slice sa sn sc] rfl rfl (World.news_of_block (cs := #[.int .u64 lo, .slice sa sn sc]) (t := 54) (fr := (0, 0)) (heap_alloc_new w6 _)) (by simp [Value.oneCell']) (by omega) hm1 hm2 hb6 (w6.heap.size + 1) (by simp) ?_)
          intro gg cap w7 hown7 hgrow hat hgl
          have kp : Kept (blk u3) w6 w7 := (Kept.alloc (fun _ => False) w6 _).trans (Kept.ofGrown (S := blk u3) hgrow fun k e => e) (fun _ _ h => h.elim) (fun _ _ h => h)
          have hsd7 := SD.out.push (p := (lo, .slice sa sn sc)) HX6.out.set (fun j hj => ⟨by have := HBL.out j hj; omega, fun e => by have := (HUL.out j e).2; have := HBL.out j hj; omega, fun e => by have := (HAL.out j e).2; have := HBL.out j hj; omega⟩) kp hown7 (by
            rcases hat with e | e
            · exact Or.inl (by rw [e]; rfl)
            · exact Or.inr fun j hj => by simp [Value.ownBlock] at hj; omega)
          rw [← HFM.out] at hsd7
          have hrf7 : Reads w7 (.slice a6 fs.length c6) fs := HF6.out.reads.kept kp (fun j hj e => by have := HF6.out.block j hj; have := (HUL.out j e).2; have := HK5.out.size; have := HKW2.out.size; omega)
          have hzl := frsPay_len F k
          obtain ⟨a8, c8, w8, r8, f8, k8, at8⟩ := append_reads_at hsd7.all hrf7 (by omega) hsd7.kept.size
          have hfe : frs (payN F (k + 1)) = frs (payN F k) ++ fs := by rw [HFN.out, frs_snoc, HFS.out]
          have hsd8 := hsd7.more k8 f8 at8
          rw [← hfe] at r8 hsd8
          have HIV := Lib.hid hsd8.inv
          have R8 := Lib.hid r8
          clear hsd7 hrf7 hzl r8 f8 k8 at8 hfe hsd8 hown7 hgrow hat hgl kp
          go_wp2_with (at_builtin; refine wpList_append_run (by rfl) _ _ _ _ rfl _ _ rfl rfl R8.out ?_)
          go_roundw
          case rel => exact ⟨k + 1, by omega, by go_num, HIV⟩
          case measure => simp [intOf]; omega
    · obtain rfl : k = K := by omega
      obtain ⟨wo, rfl⟩ : ∃ wo : World, wo = wr := ⟨_, rfl⟩
      obtain ⟨vs, hside⟩ := hinv.out.side
      have hvl : vs.length = k := by rw [hside.sets.len, MsN_length]
      have hpb : ∀ p ∈ payN F k, ∀ x ∈ p, x < 256 := fun p hp => by
        simp only [payN, List.mem_map] at hp
        obtain ⟨M, _, rfl⟩ := hp
        exact payM_byte M
      have hpl : ∀ p ∈ payN F k, p.length ≤ 9000 := fun p hp => by
        simp only [payN, MsN, List.mem_map] at hp
        obtain ⟨M, ⟨i, _, rfl⟩, rfl⟩ := hp
        have := payM_len (maskH_small ((F i).take 20)); omega
      obtain ⟨q1, q2⟩ := pays_frs (payN F k) hpb hpl
      have hzb := frs_byte hpb
      have hzl := frsPay_len F k
      have hso := hside.sets.own
      rw [hvl] at hso
      obtain ⟨sa, sc, hsf, hsg, _⟩ := row_form hso
      subst hsf
      have HSC := Lib.hid (scan_any _ _ wo hinv.out.all.reads hzb (HT.out.kept hkw (fun h => h)) (by omega))
      rw [q1, q2] at HSC
      have HSD := Lib.hid hside; have HVL := Lib.hid hvl; have HSG := Lib.hid hsg; have HKW := Lib.hid hkw
      clear hpb hpl q1 q2 hzb hso hside hvl hinv hsg hkw
      go_wp2_with fail
      refine HSC.out.mono ?_
      rintro e w2 ⟨v2, ps2, rfl, hpy, hk2⟩
      have hpo := hpy.own
      have hpn := hpy.len
      rw [payN_length] at hpn
      rw [hpn] at hpo
      obtain ⟨ga, gc, hgf, hgg, hgc⟩ := row_form hpo
      subst hgf
      have SD2 := Lib.hid (HSD.out.then hk2)
      have HPY := Lib.hid hpy; have HGG := Lib.hid hgg; have HK2 := Lib.hid hk2; have HPN := Lib.hid hpn
      have hgci : (k : Int) ≤ gc := by omega
      clear hpy hpo hpn hgg hk2 HSC
      go_wp2_with fail
      go_loopw [86] (fun iv wr => ∃ i : Nat, i ≤ k ∧ iv = .int .i64 i ∧ Hid (Kept (fun _ => False) w2 wr)) (fun iv _ => k - (intOf iv).toNat)
      case atStart => exact ⟨0, by omega, rfl, Kept.refl _ _⟩
      case round =>
        obtain ⟨i, hi, rfl, hkr⟩ := hrel
        by_cases hlt2 : i < k
        · have l1 : (i : Int) < (k : Int) := by omega
          have l0 : (0 : Int) ≤ (i : Int) := by omega
          obtain ⟨g1, rfl⟩ := HGG.out (by omega)
          obtain ⟨g2, rfl⟩ := HSG.out (by omega)
          have hsat := SD2.out.sets.at (i := i) (by rw [MsN_length]; exact hlt2)
          have hsel := SD2.out.sets.el i (by rw [MsN_length]; exact hlt2)
          have hpel := HPY.out.el i (by rw [payN_length]; exact hlt2)
          rw [payN_at F k i hlt2] at hpel
          have hcg : wr.cell? ⟨g1, i, none⟩ = some (ps2.getD i (.bool false)) := by
            have hpo := HPY.out.own
            rw [HPN.out] at hpo
            rw [hkr.out.cell (p := ⟨g1, i, none⟩) (HPY.out.own.lt g1 rfl).2 (fun h => h), hpo.cellAt i (by omega)]
            have : i < ps2.length := by have := HPN.out; omega
            simp [List.getD, this]
          have hMs : Small ((MsN F k).getD i 0) := MsN_small F k i
          generalize (MsN F k).getD i 0 = M at hsel hpel hMs
          generalize ps2.getD i (.bool false) = P at hpel hcg
          generalize vs.getD i (0, undef) = q at hsat hsel
          obtain ⟨ql, qv⟩ := q
          obtain ⟨ql', qa, qn, qc, hqf⟩ := hsel.form
          obtain ⟨rfl, rfl⟩ : ql = ql' ∧ qv = .slice qa qn qc := by
            simp [pairV] at hqf
            exact ⟨by omega, hqf.2⟩
          obtain ⟨Pa, Pc, hPf⟩ := hpel.form
          have hpe : Reads wr P (payM M) := hpel.kept hkr.out (fun _ _ h => h)
          have hpl9 := payM_len hMs
          have HNR := Lib.hid (newReader_any wr P (payM M) hpe (by omega))
          generalize (payM M).length = pn at hPf
          subst hPf
          have HSA := Lib.hid hsat; have HSE := Lib.hid hsel; have HMS := Lib.hid hMs
          clear hsat hsel hpel hMs hqf hpe hpl9
          go_wp2_with fail
          refine HNR.out.mono ?_
          rintro e w3 ⟨rb, v3, rfl, hrd3, hrb, hvb, hk3⟩
          have HRS := Lib.hid (rset_ok w3 rb v3 (payM M) 4095 hrd3 (payM_byte M))
          rw [setS_pay HMS.out] at HRS
          have HK3 := Lib.hid hk3
          clear hk3 hrd3 hvb HNR hcg
          go_wp2_with fail
          refine HRS.out.mono ?_
          rintro e w4 ⟨sv, v4, rfl, hset4, hblk4, hrd4, hob4, hk4⟩
          obtain ⟨rl, ra, rn, rc, hrf⟩ := hset4.form
          subst hrf
          have hk24 : Kept (fun _ => False) w2 w4 := (hkr.out.then HK3.out).trans hk4 (fun _ _ h => h) (fun j hj e => by have e : j = rb := e; have := hkr.out.size; omega)
          have HK24 := Lib.hid hk24; have HRD4 := Lib.hid hrd4; have HST4 := Lib.hid hset4
          clear hk24 hrd4 hset4 hblk4 hob4 hk4 HRS HK3
          have hk5 := Kept.alloc (fun _ => False) w4 (.cells #[.int .u64 rl, .slice ra rn rc] 54)
          have b0 : (w4.alloc (.cells #[.int .u64 rl, .slice ra rn rc] 54)).cell? ⟨w4.heap.size, 0, none⟩ = some (.int .u64 rl) := by go_simp
          have b1 : (w4.alloc (.cells #[.int .u64 rl, .slice ra rn rc] 54)).cell? ⟨w4.heap.size, 1, none⟩ = some (.slice ra rn rc) := by go_simp
          have bl : w4.heap.size < (w4.alloc (.cells #[.int .u64 rl, .slice ra rn rc] 54)).heap.size := by simp
          have hg2 : g2 < w2.heap.size := (SD2.out.sets.own.lt g2 rfl).2
          have HC := Lib.hid (fun (W : World) (hk : Kept (fun _ => False) (w4.alloc (.cells #[.int .u64 rl, .slice ra rn rc] 54)) W) =>
            (show W.cell? ⟨w4.heap.size, 0, none⟩ = some (.int .u64 rl) ∧ W.cell? ⟨w4.heap.size, 1, none⟩ = some (.slice ra rn rc) ∧ W.cell? ⟨g2, i * 2, none⟩ = some (.int .u64 ql) ∧ W.cell? ⟨g2, i * 2 + 1, none⟩ = some (.slice qa qn qc) from
              ⟨(hk.cell (p := ⟨w4.heap.size, 0, none⟩) bl (fun h => h)).trans b0, (hk.cell (p := ⟨w4.heap.size, 1, none⟩) bl (fun h => h)).trans b1,
               ((HK24.out.then (hk5.then hk)).cell (p := ⟨g2, i * 2, none⟩) hg2 (fun h => h)).trans (by rw [Nat.mul_comm]; exact HSA.out.1),
               ((HK24.out.then (hk5.then hk)).cell (p := ⟨g2, i * 2 + 1, none⟩) hg2 (fun h => h)).trans (by rw [Nat.mul_comm]; exact HSA.out.2)⟩))
          have HEND := Lib.hid (fun (W : World) (hk : Kept (fun _ => False) (w4.alloc (.cells #[.int .u64 rl, .slice ra rn rc] 54)) W) => end_any W rb v4 [] 0 (HRD4.out.kept (hk5.then hk) (fun h => h) (fun _ _ h => h)))
          have HEQ := Lib.hid (fun (W : World) (hk : Kept (fun _ => False) (w4.alloc (.cells #[.int .u64 rl, .slice ra rn rc] 54)) W) => equal_any W (.agg #[.int .u64 rl, .slice ra rn rc]) (.agg #[.int .u64 ql, .slice qa qn qc]) M M (HST4.out.kept (hk5.then hk) (fun _ _ h => h)) (HSE.out.kept (HK24.out.then (hk5.then hk)) (fun _ _ h => h)))
          rw [show decide (M = M) = true by simp] at HEQ
          rw [if_neg (by simp)] at HEND
          have HK5 := Lib.hid (HK24.out.then hk5)
          have hki : (i : Int) < (k : Int) := by omega
          clear b0 b1 bl hk5 hg2
          go_wp2_with fail
          generalize w4.alloc (.cells #[.int .u64 rl, .slice ra rn rc] 54) = w5 at HC HEND HEQ HK5 ⊢
          generalize w4.heap.size = bx at *
          have D5 := Lib.hid ((Kept.refl (fun _ => False) w5).drew)
          obtain ⟨b0, b1, b2, b3⟩ := HC.out w5 (Kept.refl _ _)
          have HEND5 := Lib.hid (HEND.out _ D5.out); have HEQ5 := Lib.hid (HEQ.out _ D5.out)
          clear HEND HEQ
          go_region_held3 (fun w' => w'.cell? ⟨bx, 0, none⟩ = some (.int .u64 rl) ∧ w'.cell? ⟨bx, 1, none⟩ = some (.slice ra rn rc) ∧ w'.cell? ⟨g2, i * 2, none⟩ = some (.int .u64 ql) ∧ w'.cell? ⟨g2, i * 2 + 1, none⟩ = some (.slice qa qn qc))
            (first | exact HC.out _ D6.out | exact HC.out _ D5.out)
            ((first | (go_at_call 31; (with_reducible refine HEND5.out.mono ?_); rintro e w' ⟨rfl, rfl⟩) | (go_at_call 32; (with_reducible refine HEQ5.out.mono ?_); rintro e w6 ⟨rfl, k6⟩; have D6 := Lib.hid (D5.out.then k6); clear k6)))
          have HK6 := Lib.hid (HK5.out.then D6.out)
          clear b0 b1 b2 b3
          go_wp2_with fail
          go_roundw
          case rel => exact ⟨i + 1, by omega, by go_num, HK6⟩
          case measure => simp [intOf]; omega
        · obtain rfl : i = k := by omega
          go_wp2_with fail
          go_ret
          exact ⟨rfl, (HKW.out.then HK2.out).then hkr.out⟩

theorem crcsets_any (v : Value) (f : Nat → Value) (F : Nat → List Nat) (N : Nat) (w : World) (hT : Tab w) (hl : LH w v f F N w.heap.size) (hb : ∀ a n c, v = .slice a n c → c ≤ 9223372036854775807) :
    Calls Tryd.prog 6 #[v] w fun e w' => e = .returned (.bool true) ∧ Kept (fun _ => False) w w' := by
  obtain ⟨a, c, rfl, hc⟩ := hl.form
  exact crcsets_at a N c f F w hT hl hc (hb _ _ _ rfl)
end Go.Proofs.YtncieckanngodaaDoor
