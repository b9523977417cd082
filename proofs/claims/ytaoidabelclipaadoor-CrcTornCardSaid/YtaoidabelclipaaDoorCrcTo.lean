/-
  arbaclaw04.CrcTorn returns true.
-/
import Derived.Test.YtaoidabelclipaaDoorCrcA
import Derived.Test.YtaoidabelclipaaDoorRowsL
namespace Go.Proofs.YtaoidabelclipaaDoor
open Go.RowKit

theorem Fresh.kept {S : Nat → Prop} {a b : World} {B : Nat} {v : Value} {xs : List Nat} (h : Fresh a B v xs) (hk : Kept S a b) (hn : ∀ k, v.ownBlock = some k → ¬ S k) : Fresh b B v xs := ⟨hk.owns h.own hn, h.block⟩

/-- The lesser number. -/
def lesser (j C : Nat) : Nat := if j < C then j else C
theorem lesser_lt {j C : Nat} (h : j < C) : lesser j C = j ∧ lesser (j + 1) C = j + 1 := by
  unfold lesser
  rw [if_pos h]
  refine ⟨rfl, ?_⟩
  split <;> omega
theorem lesser_ge {j C : Nat} (h : ¬ j < C) : lesser j C = C ∧ lesser (j + 1) C = C := by
  unfold lesser
  rw [if_neg h, if_neg (by omega)]
  exact ⟨rfl, rfl⟩

/-- What the first loop keeps: all frames, and where they end. -/
structure TornInv (w wr : World) (F : Nat → List Nat) (av ev : Value) (k : Nat) : Prop where
  all : Fresh wr w.heap.size av (frs (psN F k))
  ends : IntsO wr w.heap.size ev (endN F k)
  apart : ∀ j, av.ownBlock = some j → ev.ownBlock ≠ some j
  kept : Kept (fun _ => False) w wr

theorem TornInv.start (w w0 : World) (F : Nat → List Nat) (hk : Kept (fun _ => False) w w0) : TornInv w w0 F (.slice none 0 0) (.slice none 0 0) 0 :=
  ⟨⟨World.ownsRow_nil _ _ _ _, by intro k hk; simp [Value.ownBlock] at hk⟩, IntsO.nil _ _, by intro k hk; simp [Value.ownBlock] at hk, hk⟩

set_option maxRecDepth 100000 in
set_option maxHeartbeats 6400000 in
theorem torn_at (a0 : Option Addr) (N c0 cut : Nat) (f : Nat → Value) (F : Nat → List Nat) (w : World) (hT : Tab w) (hl : LB w (.slice a0 N c0) f F N w.heap.size) (hN : N ≤ c0) (hc : cut < 65536) (hc0 : c0 ≤ 9223372036854775807) :
    Calls Tryd.prog 10 #[.slice a0 N c0, .int .u16 cut] w fun e w' => e = .returned (.bool true) ∧ Kept (fun _ => False) w w' := by
  obtain ⟨i0, hi, hz0, hz1, hz2⟩ := info_parts info_int
  obtain ⟨K, hK⟩ : ∃ K, K = min N 8 := ⟨_, rfl⟩
  have hmin : min (N : Int) 8 = (K : Int) := by omega
  have hK0 : (0 : Int) ≤ (K : Int) := by omega
  have hK1 : (K : Int) ≤ (N : Int) := by omega
  have hK2 : (K : Int) ≤ (c0 : Int) := by omega
  have hK3 : K ≤ c0 := by omega
  have hK4 : K ≤ N := by omega
  have hK5 : K ≤ 8 := by omega
  have HL := Lib.hid hl; have HLK := Lib.hid (hl.cut K hK4); have HT := Lib.hid hT
  have hby : ∀ i, i < K → ∀ x ∈ F i, x < 256 := fun i hi => by
    obtain ⟨_, _, _, _, _, _, h⟩ := hl.at (k := i) (by omega)
    exact h
  have HBY := Lib.hid hby
  clear hl hT hby hK
  have hwc : IntKind.i64.wrap (cut : Int) = (cut : Int) := IntWalk.i64_in _ (by omega)
  go_enter Tryd.func10, Tryd.ntmps10
  go_wp2_with fail
  refine (awake4_any w HT.out).mono ?_
  rintro e w0 ⟨rfl, hk0⟩
  have HI0 := Lib.hid (TornInv.start w w0 F hk0)
  clear hk0
  go_wp2_with fail
  go_loopw [5, 6, 28] (fun av ev iv wr => ∃ k : Nat, k ≤ K ∧ iv = .int .i64 k ∧ Hid (TornInv w wr F av ev k)) (fun _ _ iv _ => K - (intOf iv).toNat)
  case atStart => exact ⟨0, by omega, rfl, HI0⟩
  case round =>
    obtain ⟨k, hk, rfl, hinv⟩ := hrel
    have hav := hinv.out.all
    have hkw := hinv.out.kept
    obtain ⟨aa, ca, hfa⟩ := hav.reads.form
    obtain ⟨ae, ce, hfe⟩ := hinv.out.ends.form
    have hel := endN_length F k
    rw [hel] at hfe
    have hal := frs_psN_len F k
    subst hfa hfe
    clear hel hav
    by_cases hlt : k < K
    · have hl1 : (k : Int) < (K : Int) := by omega
      have hl0 : (0 : Int) ≤ (k : Int) := by omega
      obtain ⟨g, off, ha0, hg, hcell, hloose, hbyk⟩ := (HLK.out.kept hkw (Nat.le_refl _)).at (k := k) hlt
      have HLO := Lib.hid hloose; have HBK := Lib.hid hbyk; have HKW := Lib.hid hkw
      subst ha0
      clear hloose hbyk hkw
      generalize hfk : f k = fk at hcell HLO
      have HFK := Lib.hid hfk
      clear hfk
      obtain ⟨pa, pc, hpf⟩ := HLO.out.form
      subst hpf
      have hsz := HKW.out.size
      go_wp2_with fail
      refine (few_loose _ (F k) 300 w.heap.size wr HLO.out (by omega)).mono ?_
      rintro e w1 ⟨p1, rfl, hf1, hk1⟩
      have hlp : ((F k).take 300).length ≤ 300 := by simp; omega
      have hqb : ∀ x ∈ (F k).take 300, x < 256 := fun x hx => HBK.out x (List.mem_of_mem_take hx)
      have HQ : Hid (psN F (k + 1) = psN F k ++ [(F k).take 300]) := psN_succ F k
      generalize (F k).take 300 = q at hf1 hlp hqb HQ
      have HF1 := Lib.hid hf1; have HK1 := Lib.hid hk1; have HQB := Lib.hid hqb
      clear hf1 hk1 hqb
      go_wp2_with fail
      refine (frame_any _ q w1 HF1.out.reads HQB.out (by omega) (HT.out.kept (HKW.out.then HK1.out) (fun h => h))).mono ?_
      rintro e w2 ⟨v2, rfl, hf2, hk2⟩
      have hk12 := HK1.out.then hk2
      have hkw2 := HKW.out.then hk12
      have hfl := frameS_length q
      have hav2 : Fresh w2 w.heap.size _ _ := hinv.out.all.kept hk12 (fun _ _ h => h)
      obtain ⟨a3, c3, w3, r1, f3, k3, at3⟩ := append_reads_at hav2 hf2.reads (by omega) hkw2.size
      have hend2 := hinv.out.ends.kept hk12 (fun _ _ h => h)
      have hend3 := hend2.kept k3 (fun j hj e => hinv.out.apart j e hj)
      have hk13 : Kept (fun _ => False) w w3 := hkw2.trans k3 (fun _ _ h => h) (fun i hi hb => by have := hav2.block i hb; omega)
      have helt := hinv.out.ends.lt
      have hapart := hinv.out.apart
      have hs2 := hk12.size
      have hs3 := k3.size
      have hs03 := hk13.size
      have hfin : frs (psN F (k + 1)) = frs (psN F k) ++ frameS q := by rw [HQ.out, frs_snoc]
      have hlen3 := frs_psN_len F (k + 1)
      rw [← hfin] at r1 f3 at3
      obtain ⟨zs, hzs⟩ : ∃ zs, zs = frs (psN F (k + 1)) := ⟨_, rfl⟩
      rw [← hzs] at r1 f3 at3 hlen3
      have he3 : w3.ownsRow w.heap.size 3 1 (.slice ae k ce) k ((endN F k).map (Value.int .i64)) := by
        have h := hend3
        unfold IntsO at h
        rwa [endN_length] at h
      have HE3 := Lib.hid he3; have R1 := Lib.hid r1; have F3 := Lib.hid f3; have AT3 := Lib.hid at3; have HELT := Lib.hid helt; have HAP := Lib.hid hapart; have HZS := Lib.hid hzs; have HK13 := Lib.hid hk13
      clear hav2 hend2 hend3 he3 r1 f3 at3 helt hapart hfin hzs k3 hf2 hk2 hk12 hkw2 hk13 hfl hinv HQ
      have hm1 : k + 1 ≤ maxLen := by unfold maxLen; omega
      have hm2 : (k + 1) * 8 ≤ 140737488355328 := by omega
      go_wp2_with (first | (at_builtin; refine wpList_append_run (by rfl) _ _ _ _ rfl _ _ rfl rfl R1.out ?_) | (at_builtin; refine wpList_append_lies _ rfl _ _ _ rfl w.heap.size 3 i0 _ 1 8 Tryd.underlying70 hi hz0 hz1 hz2 rfl (by omega) (.slice ae k ce) k _ rfl (HE3.out.alloc _) ⟨w3.heap.size, 0, none⟩ 1 1 [.int .i64 zs.length] rfl rfl (World.news_of_block (cs := #[.int .i64 zs.length]) (t := 3) (fr := (0, 0)) (heap_alloc_new w3 _)) (by simp [Value.oneCell']) (by omega) hm1 hm2 (by simp; omega) (w3.heap.size + 1) (by simp) ?_))
      intro gg cap w4 hown4 hgrow hat hgl
      have kp : Kept (blk (.slice ae k ce)) w3 w4 := (Kept.alloc (fun _ => False) w3 _).trans (Kept.ofGrown (S := blk (.slice ae k ce)) hgrow fun k e => e) (fun _ _ h => h.elim) (fun _ _ h => h)
      have hav4 : Fresh w4 w.heap.size (.slice a3 zs.length c3) zs := F3.out.kept kp (fun j hj e => by
        rcases AT3.out with h | h
        · rw [h] at hj; exact HAP.out j hj e
        · have := h j hj; have := HELT.out j e; omega)
      have hin : Hid (TornInv w w4 F (.slice a3 zs.length c3) (.slice (some ⟨gg, 0, none⟩) (k + 1) cap) (k + 1)) := by
        refine ⟨by rw [← HZS.out]; exact hav4, ?_, fun j hj e => ?_, HK13.out.trans kp (fun _ _ h => h) (fun i hi hb => by have := HELT.out i hb; omega)⟩
        · unfold IntsO
          rw [endN_length, endN_succ, List.map_append, ← HZS.out]
          exact hown4
        · have hgj : gg = j := by simpa [Value.ownBlock] using e
          subst hgj
          rcases hat with h | h
          · rcases AT3.out with h2 | h2
            · rw [h2] at hj; exact HAP.out _ hj h
            · have := h2 _ hj; have := HELT.out _ h; omega
          · have := (F3.out.own.lt _ hj).2; omega
      clear hav4 hown4 hgrow hat hgl kp
      go_wp2
      go_roundw
      case rel => exact ⟨k + 1, by omega, by go_num, hin⟩
      case measure => simp [intOf]; omega
    · obtain rfl : k = K := by omega
      have hapart := hinv.out.apart
      have hends : IntsO wr w.heap.size (.slice ae k ce) (endN F k) := hinv.out.ends
      have hread : Reads wr (.slice aa (frs (psN F k)).length ca) (frs (psN F k)) := hinv.out.all.reads
      have hpb := psN_byte (F := F) (k := k) HBY.out
      have hpl : ∀ p ∈ psN F k, p.length ≤ 9000 := fun p hp => by have := psN_len F k p hp; omega
      have hzb := frs_byte hpb
      have hzc := (hread.behind (Nat.zero_le _)).2.2
      obtain ⟨m, hm⟩ : ∃ m, m = cut % ((frs (psN F k)).length + 1) := ⟨_, rfl⟩
      have hme : (cut : Int) % (((frs (psN F k)).length : Int) + 1) = (m : Int) := by rw [hm, Int.natCast_emod, Int.natCast_add]; rfl
      have hml : m ≤ (frs (psN F k)).length := by
        have := Nat.mod_lt cut (show 0 < (frs (psN F k)).length + 1 by omega)
        omega
      obtain ⟨hp1, hp2⟩ := frs_cut (psN F k) hpb hpl m hml
      have hCk := cnt_le m (psN F k)
      rw [psN_length] at hCk
      have hend := frs_end (psN F k) m
      rw [psN_length] at hend
      generalize cnt m (psN F k) = C at hp1 hp2 hCk hend
      rw [psN_take F k C hCk] at hp1 hp2
      have hend' : ∀ j, j < k → ((frs (psN F (j + 1))).length ≤ m ↔ j < C) := fun j hj => by
        have := hend j hj
        rwa [psN_take F k (j + 1) (by omega)] at this
      have htk := hread.takeV m hml
      have htl : ((frs (psN F k)).take m).length ≤ 100000 := by simp; omega
      have htb : ∀ x ∈ (frs (psN F k)).take m, x < 256 := fun x hx => hzb x (List.mem_of_mem_take hx)
      generalize hzs : frs (psN F k) = zs at hme hml hzc hal htk htl htb hp1 hp2
      have HEND := Lib.hid hend'; have HENDS := Lib.hid hends; have HTK := Lib.hid htk; have HTB := Lib.hid htb; have HP1 := Lib.hid hp1; have HP2 := Lib.hid hp2; have HKW := Lib.hid hkw
      have n1 : (m : Int) ≤ zs.length := by omega
      have n2 : m ≤ ca := by omega
      have n3 : (m : Int) ≤ ca := by omega
      clear hapart hends hread hpb hpl hzb hm hp1 hp2 hend hend' htk htb hkw hinv hzs HI0
      go_wp2_with fail
      refine (scan_any _ (zs.take m) wr HTK.out HTB.out (HT.out.kept HKW.out (fun h => h)) htl).mono ?_
      rw [HP1.out, HP2.out]
      rintro e w1 ⟨gv, gs, rfl, hpays, hk1⟩
      obtain ⟨ag, cg, hgf⟩ := hpays.form
      rw [psN_length] at hgf
      have hkw1 := HKW.out.then hk1
      have hends1 := HENDS.out.kept hk1 (fun _ _ h => h)
      have HPAYS := Lib.hid hpays; have HKW1 := Lib.hid hkw1; have HE1 := Lib.hid hends1
      clear hpays hk1 hkw1 hends1 HTK HTB HP1 HP2 HENDS HKW
      subst hgf
      have hCl : (frs (psN F C)).length ≤ 308 * C := frs_psN_len F C
      go_wp2_with fail
      go_loop [14, 15, 64] (fun nv lv jv => ∃ j : Nat, j ≤ k ∧ jv = .int .i64 j ∧ nv = .int .i64 (lesser j C : Nat) ∧ lv = .int .i64 ((frs (psN F (lesser j C))).length : Nat)) (fun _ _ jv => k - (intOf jv).toNat)
      case atStart =>
        refine ⟨0, by omega, rfl, ?_, ?_⟩
        · by_cases h : 0 < C
          · rw [(lesser_lt h).1]; rfl
          · rw [(lesser_ge h).1, show C = 0 by omega]; rfl
        · by_cases h : 0 < C
          · rw [(lesser_lt h).1]; rfl
          · rw [(lesser_ge h).1, show C = 0 by omega]; rfl
      case round =>
        obtain ⟨j, hj, rfl, rfl, rfl⟩ := hrel
        by_cases hlt2 : j < k
        · have hl1 : (j : Int) < (k : Int) := by omega
          have hl0 : (0 : Int) ≤ (j : Int) := by omega
          obtain ⟨ge, oe, hae, hge, hcell⟩ := HE1.out.at (i := j) (by rw [endN_length]; exact hlt2)
          rw [endN_getD F k j hlt2] at hcell
          have hEl : (frs (psN F (j + 1))).length ≤ 308 * (j + 1) := frs_psN_len F (j + 1)
          have hdec := HEND.out j hlt2
          subst hae
          by_cases hjc : j < C
          · obtain ⟨l1, l2⟩ := lesser_lt hjc
            have hle : ((frs (psN F (j + 1))).length : Int) ≤ (m : Int) := by have := hdec.2 hjc; omega
            rw [l1]
            have L2 := Lib.hid l2
            clear l1 l2 hdec
            generalize hE : (frs (psN F (j + 1))).length = E at hcell hEl hle
            generalize (frs (psN F j)).length = E0
            have HE := Lib.hid hE; clear hE
            go_wp2_with fail
            go_round
            case rel => exact ⟨j + 1, by omega, by go_num, by rw [L2.out]; go_num, by rw [L2.out, HE.out]⟩
            case measure => simp [intOf]; omega
          · obtain ⟨l1, l2⟩ := lesser_ge hjc
            have hle : ¬ ((frs (psN F (j + 1))).length : Int) ≤ (m : Int) := by
              intro h
              exact hjc (hdec.1 (by omega))
            rw [l1]
            have L2 := Lib.hid l2
            clear l1 l2 hdec
            generalize (frs (psN F (j + 1))).length = E at hcell hEl hle
            generalize hE0 : (frs (psN F C)).length = E0 at hCl
            have HE0 := Lib.hid hE0; clear hE0
            go_wp2_with fail
            go_round
            case rel => exact ⟨j + 1, by omega, by go_num, by rw [L2.out], by rw [L2.out, HE0.out]⟩
            case measure => simp [intOf]; omega
        · obtain rfl : j = k := by omega
          rw [(lesser_ge (show ¬ j < C by omega)).1]
          generalize (frs (psN F C)).length = E0
          go_wp2_with fail
          go_loopw [86] (fun jv wr' => ∃ i : Nat, i ≤ C ∧ jv = .int .i64 i ∧ Hid (Kept (fun _ => False) w1 wr')) (fun jv _ => C - (intOf jv).toNat)
          case atStart => exact ⟨0, by omega, rfl, Lib.hid (Kept.refl _ _)⟩
          case round =>
            obtain ⟨i, hiC, rfl, hk⟩ := hrel
            by_cases hlt3 : i < C
            · have hl1 : (i : Int) < (C : Int) := by omega
              have hl0 : (0 : Int) ≤ (i : Int) := by omega
              have hl2 : (i : Int) < (N : Int) := by omega
              obtain ⟨gg, og, hag, hgg, hcell, hread⟩ := (HPAYS.out.kept hk.out).at (i := i) (by rw [psN_length]; exact hlt3)
              rw [psN_getD F C i hlt3] at hread
              obtain ⟨g, off, ha0, hg, hcell0, hloose, hbyk⟩ := (HL.out.kept (HKW1.out.then hk.out) (Nat.le_refl _)).at (k := i) (by omega)
              have HLO := Lib.hid hloose; have HR := Lib.hid hread
              generalize f i = fi at hcell0 HLO
              generalize gs.getD i (.bool false) = gi at hcell HR
              obtain ⟨pa, pc, hpf⟩ := HLO.out.form
              clear hloose hread hbyk
              subst hag ha0 hpf
              go_wp2_with fail
              refine (few_loose _ (F i) 300 w.heap.size _ HLO.out (by omega)).mono ?_
              rintro e w3 ⟨p1, rfl, hf1, hk1⟩
              have HF1 := Lib.hid hf1.reads
              have HR1 := Lib.hid (HR.out.kept hk1 (fun _ _ h => h))
              have HK3 := Lib.hid (hk.out.then hk1)
              clear hf1 hk1
              generalize (F i).take 300 = q at HF1 HR1
              go_wp2_with fail
              refine (equalb_any w3 _ _ q q HR1.out HF1.out).mono ?_
              rw [show decide (q = q) = true by simp]
              rintro e w4 ⟨rfl, hk4⟩
              have HK4 := Lib.hid (HK3.out.then hk4)
              clear hk4
              go_wp2_with fail
              go_roundw
              case rel => exact ⟨i + 1, by omega, by go_num, HK4⟩
              case measure => simp [intOf]; omega
            · obtain rfl : i = C := by omega
              go_wp2_with fail
              go_ret
              exact ⟨rfl, HKW1.out.then hk.out⟩

theorem torn_any (v : Value) (f : Nat → Value) (F : Nat → List Nat) (N cut : Nat) (w : World) (hT : Tab w) (hl : LB w v f F N w.heap.size) (hb : ∀ a n c, v = .slice a n c → c ≤ 9223372036854775807) (hc : cut < 65536) :
    Calls Tryd.prog 10 #[v, .int .u16 cut] w fun e w' => e = .returned (.bool true) ∧ Kept (fun _ => False) w w' := by
  obtain ⟨a, c, rfl, h1⟩ := hl.form
  exact torn_at a N c cut f F w hT hl h1 hc (hb _ _ _ rfl)
end Go.Proofs.YtaoidabelclipaaDoor
