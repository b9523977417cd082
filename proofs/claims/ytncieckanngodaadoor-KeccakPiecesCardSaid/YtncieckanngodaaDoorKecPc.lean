/-
  arbaclaw03.KeccakPieces returns true.
-/
import Derived.Test.YtncieckanngodaaDoorKecSu
import Derived.Test.YtncieckanngodaaDoorKecRd
import Derived.Test.YtncieckanngodaaDoorKecNw
import Derived.Test.YtncieckanngodaaDoorKecEq
import Derived.Test.YtncieckanngodaaDoorKecK
import Derived.Test.YtncieckanngodaaDoorKecCt
namespace Go.Proofs.YtncieckanngodaaDoor
open Go.RowKit

/-- The first k pieces, each cut, one behind the other. -/
def pcN (F : Nat → List Nat) : Nat → List Nat
  | 0 => []
  | k + 1 => pcN F k ++ (F k).take 600
theorem pcN_len (F : Nat → List Nat) : ∀ k, (pcN F k).length ≤ 600 * k
  | 0 => by simp [pcN]
  | k + 1 => by have := pcN_len F k; have := take600 (F k); rw [pcN, List.length_append]; omega
theorem pcN_byte {F : Nat → List Nat} {N : Nat} (h : ∀ i, i < N → ∀ x ∈ F i, x < 256) : ∀ k, k ≤ N → ∀ x ∈ pcN F k, x < 256
  | 0, _, x, hx => by simp [pcN] at hx
  | k + 1, hk, x, hx => by
    rw [pcN] at hx
    rcases List.mem_append.1 hx with hx | hx
    · exact pcN_byte h k (by omega) x hx
    · exact h k (by omega) x (List.mem_of_mem_take hx)

/-- What the loop keeps: the hash, and all bytes so far in a row of their own. -/
structure PcInv (w wr : World) (hb : Nat) (av : Value) (xs : List Nat) : Prop where
  hash : HashAt wr hb 0 xs
  row : Fresh wr w.heap.size av xs
  ne : av.ownBlock ≠ some hb
  ge : w.heap.size ≤ hb
  lt : hb < wr.heap.size
  kept : Kept (fun _ => False) w wr
theorem PcInv.on {S : Nat → Prop} {w w1 w2 : World} {hb : Nat} {av : Value} {xs : List Nat} (h : PcInv w w1 hb av xs) (hk : Kept S w1 w2) (h1 : ¬ S hb) (h2 : ∀ j, av.ownBlock = some j → ¬ S j) (h3 : ∀ i, i < w.heap.size → ¬ S i) : PcInv w w2 hb av xs :=
  ⟨h.hash.kept hk h.lt h1, ⟨hk.owns h.row.own h2, h.row.block⟩, h.ne, h.ge, Nat.lt_of_lt_of_le h.lt hk.size, h.kept.trans hk (fun _ _ h => h) (fun i hi e => h3 i hi e)⟩

/-- A cell of a row of bytes of one's own is set. -/
theorem fresh_set {w : World} {B g n c k : Nat} {xs : List Nat} (h : Fresh w B (.slice (some ⟨g, 0, none⟩) n c) xs) (y : Nat) : Fresh (w.setCell ⟨g, k, none⟩ (.int .u8 y)) B (.slice (some ⟨g, 0, none⟩) n c) (xs.set k y) := by
  have hn : n = xs.length := by
    rcases h.own.2 with ⟨h1, _⟩ | ⟨g', cap, cur, h1, _⟩
    · cases h1
    · cases h1; rfl
  subst hn
  refine ⟨?_, h.block⟩
  have := (h.own.stored k (.int .u8 y)).1
  rw [List.length_set]
  have hb : (bv xs).set k (.int .u8 y) = bv (xs.set k y) := by unfold bv; rw [List.map_set]
  rwa [hb] at this

set_option maxRecDepth 100000 in
set_option maxHeartbeats 3200000 in
theorem pc_at (a0 : Option Addr) (N c0 : Nat) (f : Nat → Value) (F : Nat → List Nat) (w : World) (hT : KTab w) (hl : LB w (.slice a0 N c0) f F N w.heap.size) :
    Calls Tryd.prog 3 #[.slice a0 N c0] w fun e w' => e = .returned (.bool true) ∧ Kept (fun _ => False) w w' := by
  have hby : ∀ i, i < N → ∀ x ∈ F i, x < 256 := fun i hi => by
    obtain ⟨_, _, _, _, _, _, h⟩ := hl.at (k := i) hi
    exact h
  have HL := Lib.hid hl; have HT := Lib.hid hT; have HBY := Lib.hid hby
  clear hl hT hby
  go_enter Tryd.func3, Tryd.ntmps3
  go_wp2_with fail
  refine (awake3_any w HT.out).mono ?_
  rintro e w0 ⟨rfl, k0⟩
  go_wp2_with fail
  refine (new_any w0).mono ?_
  rintro e w1 ⟨rfl, hh1, hk1, hlt1⟩
  have H1 : Hid (PcInv w w1 w0.heap.size (.slice none 0 0) (pcN F 0)) := ⟨hh1, ⟨World.ownsRow_nil _ _ _ _, by intro k hk; simp [Value.ownBlock] at hk⟩, by simp [Value.ownBlock], k0.size, hlt1, k0.then hk1⟩
  have HNT : Hid (NoTab w0.heap.size) := HT.out.fresh k0.size
  clear hh1 hk1 hlt1 k0
  generalize w0.heap.size = hb at H1 HNT ⊢
  go_wp2_with fail
  go_loopw [4, 5] (fun av iv wr => ∃ k : Nat, k ≤ N ∧ k ≤ 8 ∧ iv = .int .i64 k ∧ Hid (PcInv w wr hb av (pcN F k))) (fun _ iv _ => 8 - (intOf iv).toNat)
  case atStart => exact ⟨0, by omega, by omega, rfl, H1⟩
  case round =>
    obtain ⟨k, hkN, hk8, rfl, hinv⟩ := hrel
    have hxl := pcN_len F k
    have hxb := pcN_byte HBY.out k hkN
    obtain ⟨xs, hxs⟩ : ∃ xs, xs = pcN F k := ⟨_, rfl⟩
    rw [← hxs] at hinv hxl hxb
    have HIN := Lib.hid hinv.out; have HXB := Lib.hid hxb; have HXS := Lib.hid hxs
    obtain ⟨aa, ca, hvf⟩ := hinv.out.row.reads.form
    clear hinv hxb H1 hxs
    subst hvf
    by_cases hlt : k < N ∧ k < 8
    · obtain ⟨hlN, hl8⟩ := hlt
      have hl1 : (k : Int) < (N : Int) := by omega
      have hl0 : (0 : Int) ≤ (k : Int) := by omega
      have hl2 : (k : Int) < 8 := by omega
      obtain ⟨g, off, ha0, hg, hcell, hloose, _⟩ := (HL.out.kept HIN.out.kept (Nat.le_refl _)).at (k := k) hlN
      subst ha0
      have HLO := Lib.hid hloose
      have hql := take600 (F k)
      have hqb : ∀ x ∈ (F k).take 600, x < 256 := fun x hx => HBY.out k hlN x (List.mem_of_mem_take hx)
      have hpc : pcN F (k + 1) = xs ++ (F k).take 600 := by rw [HXS.out]; rfl
      have hsz := HIN.out.kept.size
      obtain ⟨fk, hfk⟩ : ∃ fk, fk = f k := ⟨_, rfl⟩
      rw [← hfk] at hcell HLO
      obtain ⟨pa, pc, hpf⟩ := HLO.out.form
      subst hpf
      obtain ⟨n, hn⟩ : ∃ n, n = (F k).length := ⟨_, rfl⟩
      obtain ⟨mk, hmk⟩ : ∃ mk, mk = Nat.min 600 n := ⟨_, rfl⟩
      have hcut : cutV (.slice pa n pc) = .slice pa mk pc := by rw [hmk]; rfl
      rw [← hn] at hcell HLO
      have hsh : ∀ W : World, Kept (fun _ => False) wr W → Calls Tryd.prog 9 #[.slice pa n pc] W fun e w' => e = .returned (.slice pa mk pc) ∧ W = w' := fun W hk => by
        have h := short_loose W (.slice pa n pc) (F k) w.heap.size (HLO.out.kept hk (fun _ _ h => h))
        rwa [hcut] at h
      have hlc : ∀ W : World, Kept (fun _ => False) wr W → Loose W (.slice pa mk pc) ((F k).take 600) w.heap.size := fun W hk => by
        have h := (HLO.out.kept hk (fun _ _ h => h)).cut
        rwa [hcut] at h
      obtain ⟨q, hq⟩ : ∃ q, q = (F k).take 600 := ⟨_, rfl⟩
      rw [← hq] at hql hqb hpc hlc
      have HSH := Lib.hid hsh; have HLC := Lib.hid hlc; have HQB := Lib.hid hqb; have HPC := Lib.hid hpc
      have kA := Kept.alloc (fun _ => False) wr (.cells #[] 5)
      have hcA : (wr.alloc (.cells #[] 5)).cell? ⟨g, off + k, none⟩ = some (.slice pa n pc) := (kA.cell (p := ⟨g, off + k, none⟩) (by simp; omega) (fun h => h)).trans hcell
      have hlit : Fresh (wr.alloc (.cells #[] 5)) wr.heap.size (.slice (some ⟨wr.heap.size, 0, none⟩) 0 0) [] := ⟨owns_lit wr wr.heap.size #[] [] 0 rfl rfl (Nat.le_refl _) (by simp), by intro k hk; simp [Value.ownBlock] at hk; omega⟩
      obtain ⟨a3, c3, w3, r3, f3, k3, _⟩ := append_loose_at hlit (HLC.out _ kA) (by simp; omega) (by simp)
      rw [List.nil_append] at r3 f3
      have k13 : Kept (fun _ => False) wr w3 := kA.trans k3 (fun _ _ h => h) (fun i hi e => by simp [blk, Value.ownBlock] at e; omega)
      have I3 := HIN.out.on k13 (fun h => h) (fun _ _ h => h) (fun _ _ h => h)
      have R3 := Lib.hid r3; have F3 := Lib.hid f3; have HI3 := Lib.hid I3; have HKA := Lib.hid kA; have HK13 := Lib.hid k13
      clear hloose hsh hlc hqb hpc hcut hmk hq hn hfk hlit r3 f3 k3 k13 I3 kA
      go_wp2_with fail
      refine (HSH.out _ HKA.out).mono ?_
      rintro e w2 ⟨rfl, rfl⟩
      go_wp2_with (at_builtin; refine wpList_append_run (by rfl) _ _ _ _ rfl _ _ rfl rfl R3.out ?_)
      have hob : ∀ j, (Value.slice a3 q.length c3).ownBlock = some j → wr.heap.size ≤ j := F3.out.block
      have hblt := HIN.out.lt
      refine (write_any w3 hb 0 xs (.slice a3 q.length c3) q HI3.out.hash HI3.out.lt (HT.out.kept HI3.out.kept (fun _ _ h => h)) HNT.out F3.out.reads HQB.out (fun j hj e => by have := hob j hj; omega) (by omega)).mono ?_
      rintro e w4 ⟨rfl, hh4, kr4⟩
      have hge := HIN.out.ge
      have k4 := kr4.kept
      have f4 : Fresh w4 wr.heap.size (.slice a3 q.length c3) q := ⟨k4.owns F3.out.own (fun j hj e => by have := hob j hj; omega), hob⟩
      have row4 : Fresh w4 w.heap.size (.slice aa xs.length ca) xs := ⟨k4.owns HI3.out.row.own (fun j hj e => HI3.out.ne (by rw [hj, e])), HI3.out.row.block⟩
      have k04 : Kept (fun _ => False) w w4 := HI3.out.kept.trans k4 (fun _ _ h => h) (fun i hi e => by omega)
      obtain ⟨a5, c5, w5, r5, f5, k5, at5⟩ := append_reads_at row4 f4.reads (by omega) k04.size
      have hal : ∀ j, (Value.slice aa xs.length ca).ownBlock = some j → j < wr.heap.size := fun j hj => (HIN.out.row.own.lt j hj).2
      have f54 : Fresh w5 wr.heap.size (.slice a3 q.length c3) q := ⟨k5.owns f4.own (fun j hj e => by have := hob j hj; have := hal j e; omega), hob⟩
      have hb4 : hb < w4.heap.size := Nat.lt_of_lt_of_le HI3.out.lt k4.size
      have hol4 : ∀ j, (Value.slice a3 q.length c3).ownBlock = some j → j < w4.heap.size := fun j hj => (f4.own.lt j hj).2
      have ne5 : (Value.slice a5 (xs ++ q).length c5).ownBlock ≠ some hb := fun e => by
        rcases at5 with h | h
        · rw [h] at e; exact HI3.out.ne e
        · have := h hb e; omega
      have ap5 : ∀ j, (Value.slice a5 (xs ++ q).length c5).ownBlock = some j → (Value.slice a3 q.length c3).ownBlock ≠ some j := fun j hj e => by
        rcases at5 with h | h
        · rw [h] at hj; have := hal j hj; have := hob j e; omega
        · have := h j hj; have := hol4 j e; omega
      have I5 : PcInv w w5 hb (.slice a5 (xs ++ q).length c5) (xs ++ q) := ⟨hh4.kept k5 hb4 (fun e => HI3.out.ne e), f5, ne5, hge, Nat.lt_of_lt_of_le hb4 k5.size, k04.trans k5 (fun _ _ h => h) (fun i hi e => by have := HI3.out.row.block i e; omega)⟩
      have hl5 : (xs ++ q).length ≤ 5400 := by rw [List.length_append]; omega
      have hb5 : ∀ x ∈ xs ++ q, x < 256 := fun x hx => (List.mem_append.1 hx).elim (HXB.out x) (HQB.out x)
      rw [← HPC.out] at I5 hl5 hb5 r5 ne5 ap5
      have R5 := Lib.hid r5; have HF5 := Lib.hid f54; have HI5 := Lib.hid I5; have HB5 := Lib.hid hb5; have HAP5 := Lib.hid ap5; have HOB := Lib.hid hob
      clear hh4 kr4 k4 f4 row4 k04 r5 f5 k5 at5 hal f54 hb4 hol4 ne5 ap5 I5 hb5 hob R3 F3 HI3 HSH HLC HKA HLO HQB HK13
      have hw5 : w.heap.size ≤ wr.heap.size := hsz
      generalize hys : pcN F (k + 1) = ys at *
      have HYS := Lib.hid hys
      clear hys
      go_wp2_with (at_builtin; refine wpList_append_run (by rfl) _ _ _ _ rfl _ _ rfl rfl R5.out ?_)
      obtain ⟨wo, hwo⟩ : ∃ wo : World, wo = wr := ⟨_, rfl⟩
      rw [← hwo] at HF5 HOB HIN hblt
      clear hwo hcell hcA
      have HZ0 : Hid (∃ zs : List Nat, zs.length = q.length ∧ (∀ x ∈ zs, x < 256) ∧ Fresh w5 wo.heap.size (.slice a3 q.length c3) zs ∧ Kept (fun i => (Value.slice a3 q.length c3).ownBlock = some i) w5 w5) := ⟨q, rfl, fun x hx => HB5.out x (by rw [HPC.out]; exact List.mem_append_right _ hx), HF5.out, Kept.refl _ _⟩
      go_loopw [36] (fun iv wq => ∃ j : Nat, j ≤ q.length ∧ iv = .int .i64 j ∧ Hid (∃ zs : List Nat, zs.length = q.length ∧ (∀ x ∈ zs, x < 256) ∧ Fresh wq wo.heap.size (.slice a3 q.length c3) zs ∧ Kept (fun i => (Value.slice a3 q.length c3).ownBlock = some i) w5 wq)) (fun iv _ => q.length - (intOf iv).toNat)
      case atStart => exact ⟨0, by omega, rfl, HZ0⟩
      case round =>
        obtain ⟨j, hj, rfl, hz⟩ := hrel
        obtain ⟨zs, hzl, hzb, hzf, hzk⟩ := hz.out
        by_cases hjl : j < q.length
        · have hj1 : (j : Int) < (q.length : Int) := by omega
          have hj0 : (0 : Int) ≤ (j : Int) := by omega
          obtain ⟨go, rfl⟩ : ∃ go, a3 = some ⟨go, 0, none⟩ := by
            rcases hzf.own.2 with ⟨h1, h0⟩ | ⟨g', cap, cur, h1, _⟩
            · omega
            · injection h1 with e1; exact ⟨g', e1⟩
          obtain ⟨g1, o1, e1, _, hc1⟩ := hzf.reads.at (k := j) (by omega)
          cases e1
          have hf1 : wr.frozen? ⟨go, j, none⟩ = false := by
            have h := hzf.own
            rw [hzl] at h
            exact h.frozenAt j
          rw [Nat.zero_add] at hc1
          obtain ⟨x, hx⟩ : ∃ x, x = zs.getD j 0 := ⟨_, rfl⟩
          have hxl2 : x < 256 := by rw [hx]; exact getD8 hzb j
          rw [← hx] at hc1
          obtain ⟨y, hy⟩ : ∃ y, y = (x + 1) % 256 := ⟨_, rfl⟩
          have hset := fresh_set (k := j) hzf y
          have hyl : y < 256 := by omega
          have hb2 : ∀ x ∈ zs.set j y, x < 256 := fun x hx => by
            rcases List.mem_or_eq_of_mem_set hx with h | h
            · exact hzb x h
            · omega
          have hk2 := hzk.trans (Kept.setCell (fun i => (Value.slice (some ⟨go, 0, none⟩) q.length c3).ownBlock = some i) wr ⟨go, j, none⟩ (.int .u8 y) rfl) (fun _ _ h => h) (fun _ _ h => h)
          have HZ2 : Hid (∃ zs : List Nat, zs.length = q.length ∧ (∀ x ∈ zs, x < 256) ∧ Fresh (wr.setCell ⟨go, j, none⟩ (.int .u8 y)) wo.heap.size (.slice (some ⟨go, 0, none⟩) q.length c3) zs ∧ Kept (fun i => (Value.slice (some ⟨go, 0, none⟩) q.length c3).ownBlock = some i) w5 (wr.setCell ⟨go, j, none⟩ (.int .u8 y))) := ⟨_, by rw [List.length_set]; exact hzl, hb2, hset, hk2⟩
          have hwy : IntKind.u8.wrap ((x : Int) + 1) = (y : Int) := by simp [IntKind.wrap, IntKind.signed, IntKind.bits]; omega
          clear hset hb2 hk2 hzf hzk hzb hzl hx hy hz HZ0
          go_wp2_with fail
          go_roundw
          case rel => first | exact ⟨j + 1, by omega, by go_num, HZ2⟩ | ((repeat apply Exists.intro); exact ⟨⟨j + 1, by omega, by go_num, HZ2⟩, rfl⟩) | ((repeat apply Exists.intro); exact ⟨by omega, by go_num, HZ2⟩)
          case measure => simp [intOf]; omega
        · have hj1 : ¬ (j : Int) < (q.length : Int) := by omega
          have I6 : PcInv w wr hb (.slice a5 ys.length c5) ys := HI5.out.on hzk (fun e => by have := HOB.out hb e; have := HIN.out.lt; omega) (fun i hi e => HAP5.out i hi e) (fun i hi e => by have := HOB.out i e; omega)
          have HI6 := Lib.hid I6
          have EQ := fun (W : World) => eqSame W ys
          have KS := fun (W : World) (p : Value) (hp : Reads W p ys) (hk : Kept (fun _ => False) w W) => ksum_any W p ys hp HB5.out (HT.out.kept hk (fun _ _ h => h)) (by omega)
          have HS := fun (W : World) (p : Value) (hi : PcInv w W hb p ys) => hsum_any W hb 0 ys hi.hash hi.lt (HT.out.kept hi.kept (fun _ _ h => h)) (by omega)
          generalize digS ys = dd at EQ KS HS
          have HEQ := Lib.hid EQ; have HKS := Lib.hid KS; have HHS := Lib.hid HS
          have hwl : IntKind.u64.wrap (ys.length : Int) = (ys.length : Int) := IntWalk.u64_in _ (by omega)
          clear hz hzl hzb hzf hzk I6 EQ KS HS HI5 HF5 HZ0
          go_wp2_with fail
          refine (len_any wr hb 0 ys HI6.out.hash).mono ?_
          rintro e w7 ⟨rfl, rfl⟩
          go_wp2_with fail
          refine (HHS.out wr _ HI6.out).mono ?_
          rintro e w7 ⟨rfl, k7⟩
          have HI7 := Lib.hid (HI6.out.on k7 (fun h => h) (fun _ _ h => h) (fun _ _ h => h))
          clear k7
          go_wp2_with fail
          refine (HKS.out w7 _ HI7.out.row.reads HI7.out.kept).mono ?_
          rintro e w8 ⟨rfl, k8⟩
          have HI8 := Lib.hid (HI7.out.on k8 (fun h => h) (fun _ _ h => h) (fun _ _ h => h))
          have he := HEQ.out w8
          clear k8
          go_wp2_with fail
          clear he
          refine (HHS.out w8 _ HI8.out).mono ?_
          rintro e w9 ⟨rfl, k9⟩
          have HI9 := Lib.hid (HI8.out.on k9 (fun h => h) (fun _ _ h => h) (fun _ _ h => h))
          clear k9
          go_wp2_with fail
          refine (HKS.out w9 _ HI9.out.row.reads HI9.out.kept).mono ?_
          rintro e w10 ⟨rfl, k10⟩
          have HI10 : Hid (PcInv w w10 hb (.slice a5 ys.length c5) (pcN F (k + 1))) := by rw [HYS.out]; exact HI9.out.on k10 (fun h => h) (fun _ _ h => h) (fun _ _ h => h)
          have he := HEQ.out w10
          clear k10
          go_wp2_with fail
          go_roundw
          case rel => first | exact ⟨k + 1, by omega, by omega, by go_num, HI10⟩ | ((repeat apply Exists.intro); exact ⟨⟨k + 1, by omega, by omega, by go_num, HI10⟩, rfl⟩) | ((repeat apply Exists.intro); exact ⟨by omega, by omega, by go_num, HI10⟩)
          case measure => simp [intOf]; omega
    · have HS := hsum_any wr hb 0 xs HIN.out.hash HIN.out.lt (HT.out.kept HIN.out.kept (fun _ _ h => h)) (by omega)
      have RS := fun (W : World) (hk : Kept (fun _ => False) wr W) => sum_of (fun W g s c h25 hb h hg hc => round_any W g 0 25 c s h25 hb h hg hc) _ xs W (HIN.out.row.reads.kept hk (fun _ _ h => h)) HXB.out (by omega)
      have EQ := fun (W : World) => eqSame W xs
      generalize digS xs = dd at HS RS EQ
      have HHS := Lib.hid HS; have HRS := Lib.hid RS; have HEQ := Lib.hid EQ
      have hend : (¬ (k : Int) < (N : Int)) ∨ ((k : Int) < (N : Int) ∧ ¬ (k : Int) < 8) := by omega
      clear HS RS EQ hlt
      rcases hend with hq1 | ⟨hq1, hq2⟩
      all_goals
        go_wp2_with fail
        refine HHS.out.mono ?_
        rintro e w7 ⟨rfl, k7⟩
        have K7 := Lib.hid k7
        clear k7
        go_wp2_with fail
        refine (HRS.out w7 K7.out).mono ?_
        rintro e w8 ⟨rfl, k8⟩
        have K8 := Lib.hid (HIN.out.kept.then (K7.out.then k8))
        have he := HEQ.out w8
        clear k8
        go_wp2_with fail
        go_ret
        exact ⟨rfl, K8.out⟩

theorem pc_any (v : Value) (f : Nat → Value) (F : Nat → List Nat) (N : Nat) (w : World) (hT : KTab w) (hl : LB w v f F N w.heap.size) :
    Calls Tryd.prog 3 #[v] w fun e w' => e = .returned (.bool true) ∧ Kept (fun _ => False) w w' := by
  obtain ⟨a, c, rfl, _⟩ := hl.form
  exact pc_at a N c f F w hT hl
end Go.Proofs.YtncieckanngodaaDoor
