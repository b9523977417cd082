/-
  The reference's Sum, over the contract of its round.
-/
import Derived.Test.YtncieckanngodaaDoorKecSm
import Derived.Test.YtncieckanngodaaDoorKecRf
namespace Go.Proofs.YtncieckanngodaaDoor
open Go.RowKit

/-- The contract of the reference's round. -/
def RoundOk : Prop := ∀ (W : World) (g : Nat) (s : List Nat) (c : Nat), s.length = 25 → (∀ x ∈ s, x < 2 ^ 64) → Lanes W g 0 s → g < W.heap.size → c < 2 ^ 64 →
  Calls Tryd.prog 39 #[.slice (some ⟨g, 0, none⟩) 25 25, .int .u64 c] W fun e w' => ∃ g', e = .returned (.slice (some ⟨g', 0, none⟩) 25 25) ∧ Lanes w' g' 0 (rndS s c) ∧ W.heap.size ≤ g' ∧ g' < w'.heap.size ∧ Kept (fun _ => False) W w'

/-- 25 words of zero, as cells. -/
def zerS : Array Value := (arr (List.replicate 25 0)).toArray

/-- What Sum's loops keep: the state's block g, the padded message, the result's cell. -/
structure SumInv (w wr : World) (g : Nat) (m : Value) (ys s : List Nat) : Prop where
  a : Lanes wr g 0 s
  ge : w.heap.size < g
  lt : g < wr.heap.size
  row : Reads wr m ys
  ne : ∀ i, m.ownBlock = some i → i ≠ g
  out : Blk wr w.heap.size 0 (List.replicate 32 0)
  kept : Kept (fun _ => False) w wr
theorem SumInv.step {w w1 w2 : World} {g : Nat} {m : Value} {ys s s' : List Nat} (h : SumInv w w1 g m ys s) (hk : Kept (fun k => k = g) w1 w2) (ha : Lanes w2 g 0 s') : SumInv w w2 g m ys s' :=
  ⟨ha, h.ge, Nat.lt_of_lt_of_le h.lt hk.size, h.row.kept hk (fun k hk e => h.ne k hk e), h.ne, h.out.kept hk (by have := h.ge; have := h.lt; omega) (by have := h.ge; omega), h.kept.trans hk (fun _ _ h => h) (fun i hi e => by have := h.ge; omega)⟩
theorem SumInv.move {w w1 w2 : World} {g g' : Nat} {m : Value} {ys s s' : List Nat} (h : SumInv w w1 g m ys s) (hk : Kept (fun _ => False) w1 w2) (ha : Lanes w2 g' 0 s') (hge : w1.heap.size ≤ g') (hlt : g' < w2.heap.size) : SumInv w w2 g' m ys s' :=
  ⟨ha, by have := h.ge; have := h.lt; omega, hlt, h.row.kept hk (fun _ _ h => h), fun i hi e => by
    rcases h.row with ⟨h1, _⟩ | ⟨gm, off, cap, h1, _, _, h4, _⟩
    · rw [h1] at hi; cases hi
    · rw [h1] at hi; cases hi; exact absurd e (Nat.ne_of_lt (Nat.lt_of_lt_of_le h4 hge)), h.out.kept hk (by have := h.ge; have := h.lt; omega) (fun h => h), h.kept.then hk⟩

theorem SumInv.keep {w w1 w2 : World} {g : Nat} {m : Value} {ys s : List Nat} (h : SumInv w w1 g m ys s) (hk : Kept (fun _ => False) w1 w2) : SumInv w w2 g m ys s :=
  ⟨h.a.kept hk h.lt (fun h => h), h.ge, Nat.lt_of_lt_of_le h.lt hk.size, h.row.kept hk (fun _ _ h => h), h.ne, h.out.kept hk (by have := h.ge; have := h.lt; omega) (fun h => h), h.kept.then hk⟩
theorem absB_ok {ys : List Nat} (hb : ∀ x ∈ ys, x < 256) : ∀ n, (absB (List.replicate 25 0) ys n).length = 25 ∧ ∀ x ∈ absB (List.replicate 25 0) ys n, x < 2 ^ 64
  | 0 => ⟨by simp [absB], fun x hx => by rw [absB] at hx; have := List.eq_of_mem_replicate hx; omega⟩
  | n + 1 => by
    have ih := absB_ok hb n
    rw [absB]
    exact absS_ok ih.2 ih.1 (fun x hx => hb x (List.mem_of_mem_drop (List.mem_of_mem_take hx)))

set_option maxRecDepth 100000 in
set_option maxHeartbeats 3200000 in
theorem sum_of (HR : RoundOk) (p : Value) (xs : List Nat) (w : World) (hp : Reads w p xs) (hb : ∀ x ∈ xs, x < 256) (hl : xs.length ≤ 100000) :
    Calls Tryd.prog 14 #[p] w fun e w' => e = .returned (.agg (arr8 (digS xs)).toArray) ∧ Kept (fun _ => False) w w' := by
  have hmk : ∀ W : World, (Instr.makeSlice 52 (.int .i64 25) (.int .i64 25)).run Tryd.prog W = .ok (.slice (some ⟨W.heap.size, 0, none⟩) 25 25) (W.alloc (.cells zerS 29)) := fun W => by kernel_rfl
  obtain ⟨pa, pc, hpf⟩ := hp.form
  subst hpf
  have HP := Lib.hid hp; have HB := Lib.hid hb; have HR' := Lib.hid HR; have HL := Lib.hid hl
  clear hp hb HR hl
  go_enter Tryd.func14, Tryd.ntmps14
  go_wp2_with fail
  clear hmk
  have hk0 : Kept (fun _ => False) w (w.alloc (.cells (arr8 (List.replicate 32 0)).toArray 31)) := Kept.alloc _ _ _
  have hb0 : Blk (w.alloc (.cells (arr8 (List.replicate 32 0)).toArray 31)) w.heap.size 0 (List.replicate 32 0) := blk_new _ _ _ _ rfl
  have hs0 : (w.alloc (.cells (arr8 (List.replicate 32 0)).toArray 31)).heap.size = w.heap.size + 1 := by simp
  have hw0 : w.alloc (.cells #[.int .u8 0, .int .u8 0, .int .u8 0, .int .u8 0, .int .u8 0, .int .u8 0, .int .u8 0, .int .u8 0, .int .u8 0, .int .u8 0, .int .u8 0, .int .u8 0, .int .u8 0, .int .u8 0, .int .u8 0, .int .u8 0, .int .u8 0, .int .u8 0, .int .u8 0, .int .u8 0, .int .u8 0, .int .u8 0, .int .u8 0, .int .u8 0, .int .u8 0, .int .u8 0, .int .u8 0, .int .u8 0, .int .u8 0, .int .u8 0, .int .u8 0, .int .u8 0] 31) = w.alloc (.cells (arr8 (List.replicate 32 0)).toArray 31) := rfl
  try rw [hw0]
  clear hw0
  generalize w.alloc (.cells (arr8 (List.replicate 32 0)).toArray 31) = w0 at hk0 hb0 hs0 ⊢
  have hk1 : Kept (fun _ => False) w0 (w0.alloc (.cells zerS 29)) := Kept.alloc _ _ _
  have hl1 := lanes_new w0 zerS 29 (List.replicate 25 0) (by simp [zerS, arr])
  have hs1 : (w0.alloc (.cells zerS 29)).heap.size = w0.heap.size + 1 := by simp
  generalize w0.alloc (.cells zerS 29) = w1 at hk1 hl1 hs1 ⊢
  have HP1 := Lib.hid (HP.out.kept (hk0.then hk1) (fun _ _ h => h))
  have HO1 := Lib.hid (hb0.kept hk1 (by omega) (fun h => h))
  have HK1 := Lib.hid (hk0.then hk1); have HL1 := Lib.hid hl1
  rw [hs0] at HL1
  obtain ⟨g0, hg0⟩ : ∃ g, g = w.heap.size + 1 := ⟨_, rfl⟩
  rw [← hg0] at HL1
  simp only [← hg0]
  have hgw : w.heap.size < g0 := by omega
  have hgw1 : g0 < w1.heap.size := by omega
  clear hk0 hb0 hs0 hk1 hl1 hs1 hg0
  refine (pad_any _ xs w1 HP1.out HB.out HL.out).mono ?_
  rintro e w2 ⟨ma, mc, rfl, hrd, hby, hblk, hk2⟩
  have hI : SumInv w w2 g0 (.slice ma (padL xs).length mc) (padL xs) (absB (List.replicate 25 0) (padL xs) 0) := ⟨HL1.out.kept hk2 hgw1 (fun h => h), hgw, Nat.lt_of_lt_of_le hgw1 hk2.size, hrd, fun i hi e => by have := hblk i hi; omega, HO1.out.kept hk2 (by omega) (fun h => h), HK1.out.then hk2⟩
  have hdig := digS_blocks xs
  obtain ⟨-, hpl⟩ := padL_split xs
  have hmx : (padL xs).length ≤ 100200 := by have := HL.out; omega
  generalize padL xs = ys at hI hby hdig hpl hmx ⊢
  obtain ⟨L, hLe⟩ : ∃ L, L = ys.length := ⟨_, rfl⟩
  obtain ⟨Q, hQ⟩ : ∃ Q, Q = xs.length / 136 + 1 := ⟨_, rfl⟩
  rw [← hLe] at hI hpl hdig hmx
  simp only [← hLe]
  rw [← hQ] at hpl
  have hq : L / 136 = Q := by omega
  rw [hq] at hdig
  have HPL := Lib.hid hpl; have HI := Lib.hid hI; have HBY := Lib.hid hby; have HDIG := Lib.hid hdig; have HLE := Lib.hid hLe
  clear hI hby hdig hLe hrd hblk hk2 hpl HP HP1 HB HO1 HK1 HL1 hQ hq hgw hgw1
  go_wp2_with fail
  go_loopw [3, 5] (fun av kv wr => ∃ q k g : Nat, q ≤ Q ∧ k = 136 * q ∧ av = .slice (some ⟨g, 0, none⟩) 25 25 ∧ kv = .int .i64 k ∧ Hid (SumInv w wr g (.slice ma L mc) ys (absB (List.replicate 25 0) ys q))) (fun _ kv _ => L - (intOf kv).toNat)
  case atStart => exact ⟨0, 0, g0, by omega, rfl, rfl, rfl, HI⟩
  case round =>
    obtain ⟨q, k, g, hqq, hkq, rfl, rfl, hinv⟩ := hrel
    by_cases hlt : q < Q
    · have hl1 : (k : Int) < L := by have := HPL.out; omega
      have hok := absB_ok HBY.out q
      have hnext : absB (List.replicate 25 0) ys (q + 1) = absS (absB (List.replicate 25 0) ys q) ((ys.drop (136 * q)).take 136) := rfl
      generalize absB (List.replicate 25 0) ys q = s0 at hok hnext hinv
      have hbi : ∀ i, i < 136 → ((ys.drop (136 * q)).take 136).getD i 0 = ys.getD (k + i) 0 := by
        intro i hi; rw [hkq]; simp [List.getD, hi, List.getElem?_drop]
      have hb8 : ∀ x ∈ (ys.drop (136 * q)).take 136, x < 256 := fun x hx => HBY.out x (List.mem_of_mem_drop (List.mem_of_mem_take hx))
      generalize (ys.drop (136 * q)).take 136 = bk at hnext hbi hb8
      have HOK := Lib.hid hok; have HNX := Lib.hid hnext; have HBI := Lib.hid hbi; have HB8 := Lib.hid hb8; have HKQ := Lib.hid hkq
      have HA0 : Hid (SumInv w wr g (.slice ma L mc) ys (absK s0 bk 0)) := hinv
      clear hok hnext hbi hb8 hinv HI
      have hkL : k + 136 ≤ L := by have := HPL.out; omega
      clear hkq
      go_wp2_with fail
      go_loopw [6] (fun iv wr => ∃ i : Nat, i ≤ 136 ∧ iv = .int .i64 i ∧ Hid (SumInv w wr g (.slice ma L mc) ys (absK s0 bk i))) (fun iv _ => 136 - (intOf iv).toNat)
      case atStart => exact ⟨0, by omega, rfl, HA0⟩
      case round =>
        obtain ⟨i, hi, rfl, hinv⟩ := hrel
        clear HA0
        by_cases hi1 : i < 136
        · obtain ⟨ki, hki⟩ : ∃ z, z = k + i := ⟨_, rfl⟩
          obtain ⟨gm, om, hag, _, e1⟩ := hinv.out.row.at (k := ki) (by have := HLE.out; omega)
          have hx := getD_lt256 HB8.out i
          have hsucc := absK_succ s0 bk i
          have hbx := HBI.out i hi1
          rw [← hki] at hbx
          rw [← hbx] at e1
          have hml := (absK_length s0 bk i).trans HOK.out.1
          have hmlt := absK_lt HOK.out.2 HB8.out i
          have hla := hinv.out.a
          obtain ⟨x, hxe⟩ : ∃ x, x = bk.getD i 0 := ⟨_, rfl⟩
          rw [← hxe] at e1 hx hsucc
          obtain ⟨m, hme⟩ : ∃ m, m = absK s0 bk i := ⟨_, rfl⟩
          rw [← hme] at hsucc hml hmlt hla
          obtain ⟨d, hd⟩ : ∃ d, d = i / 8 := ⟨_, rfl⟩
          obtain ⟨r, hr⟩ : ∃ r, r = i % 8 := ⟨_, rfl⟩
          obtain ⟨n, hnn⟩ : ∃ n, n = 8 * r := ⟨_, rfl⟩
          obtain ⟨z, hz⟩ : ∃ z, z = x * 2 ^ n := ⟨_, rfl⟩
          obtain ⟨v, hv⟩ : ∃ v, v = ln m d := ⟨_, rfl⟩
          obtain ⟨y, hy⟩ : ∃ y, y = v ^^^ z := ⟨_, rfl⟩
          have hvl : v < 2 ^ 64 := by rw [hv]; exact ln_lt hmlt d
          have hzl : z < 2 ^ 64 := by rw [hz]; exact shl_lt hx (by omega)
          have xx := xor64 v z y hvl hzl hy
          have sw : IntKind.u64.wrap ((x : Int) * 2 ^ n) = (z : Int) := by rw [hz]; exact shl_walk x n hx (by omega)
          have q1 : (i : Int).tdiv 8 = (d : Int) := by rw [Int.tdiv_eq_ediv_of_nonneg (by omega)]; omega
          have q2 : (i : Int) / 8 = (d : Int) := by omega
          have r1 : (i : Int).tmod 8 = (r : Int) := by rw [Int.tmod_eq_emod_of_nonneg (by omega)]; omega
          have r2 : (i : Int) % 8 = (r : Int) := by omega
          have n1 : IntKind.i64.wrap (8 * (r : Int)) = (n : Int) := by rw [IntWalk.i64_in _ (by omega)]; omega
          have n2 : IntKind.i64.wrap ((k : Int) + (i : Int)) = (ki : Int) := by rw [IntWalk.i64_in _ (by omega)]; omega
          have w1' : IntKind.u64.wrap (x : Int) = (x : Int) := IntWalk.u64_in _ (by omega)
          have w2' : IntKind.i64.wrap (d : Int) = (d : Int) := IntWalk.i64_in _ (by omega)
          have m0 : (i : Int) < 136 := by omega
          have m1 : (0 : Int) ≤ i := by omega
          have m2 : (0 : Int) ≤ d := by omega
          have m3 : (d : Int) < 25 := by omega
          have m4 : (0 : Int) ≤ n := by omega
          have m5 : n < 64 := by omega
          have m6 : (0 : Int) ≤ ki := by omega
          have m7 : (ki : Int) < L := by omega
          have c1 := hla.cell d (by omega)
          have f1 := hla.free d (by omega)
          rw [show m.getD d 0 = v from hv.symm] at c1
          have hset := (hla.drewN 1).set d y (by omega)
          have hfin : m.set d y = absK s0 bk (i + 1) := by rw [hsucc, inB, ← hd, ← hr, ← hnn, ← hz, ← hv, ← hy]
          rw [hfin] at hset
          rw [Nat.zero_add] at c1 f1 hset
          have hkk : Kept (fun k => k = g) wr (wr.drew.setCell ⟨g, d, none⟩ (.int .u64 (y : Int))) := (Kept.refl _ _).drew.trans (Kept.setCell (fun k => k = g) wr.drew ⟨g, d, none⟩ (.int .u64 (y : Int)) rfl) (fun _ _ h => h) (fun _ _ h => h)
          have HI8 : Hid (SumInv w (wr.drew.setCell ⟨g, d, none⟩ (.int .u64 (y : Int))) g (.slice ma L mc) ys (absK s0 bk (i + 1))) := hinv.out.step hkk hset
          clear hset hkk hfin hsucc hla hxe hme hd hr hnn hz hv hy hmlt hinv hbx hki
          subst hag
          go_wp2_with fail
          go_still_tail 21, (by kernel_rfl)
          change wpList _ _ _ _ _ wr.drew
          replace c1 : wr.drew.cell? _ = _ := c1
          replace f1 : wr.drew.frozen? _ = _ := f1
          clear e1 q1 q2 r1 r2 n1 n2 xx sw w1' w2'
          generalize wr.drew = v' at *
          go_wp2_with fail
          go_roundw
          case rel => first | exact ⟨i + 1, by omega, by go_num, HI8⟩ | ((repeat apply Exists.intro); exact ⟨⟨i + 1, by omega, by go_num, HI8⟩, rfl⟩)
          case measure => simp [intOf]; omega
        · obtain rfl : i = 136 := by omega
          have hl25 := (absK_length s0 bk 136).trans HOK.out.1
          have hlt64 := absK_lt HOK.out.2 HB8.out 136
          have hnx : absB (List.replicate 25 0) ys (q + 1) = permK (absK s0 bk 136) 24 := HNX.out
          generalize absK s0 bk 136 = s1 at hinv hl25 hlt64 hnx
          have HNX1 := Lib.hid hnx; have HL25 := Lib.hid hl25; have H64 := Lib.hid hlt64
          clear hnx hl25 hlt64 HNX
          go_wp2_with fail
          refine (rounds_any wr).mono ?_
          rintro e w3 ⟨rfl, hw3⟩
          have hk3 : Kept (fun _ => False) wr w3 := by rw [hw3]; exact Kept.alloc _ _ _
          have hl3 : Lanes w3 wr.heap.size 0 rcs := by rw [hw3]; exact lanes_new _ _ _ rcs (by simp [arr])
          have hs3 : w3.heap.size = wr.heap.size + 1 := by rw [hw3]; simp
          have hi3 := hinv.out.keep hk3
          have HI3 : Hid (SumInv w w3 g (.slice ma L mc) ys (permK s1 0)) := hi3
          have HL3 := Lib.hid hl3
          obtain ⟨gr, hgr⟩ : ∃ gr, gr = wr.heap.size := ⟨_, rfl⟩
          rw [← hgr] at HL3 hs3
          simp only [← hgr]
          have hgr3 : gr < w3.heap.size := by omega
          clear hw3 hk3 hl3 hs3 hi3 hinv hgr
          go_wp2_with fail
          go_loopw [3, 47] (fun av nv wr => ∃ n g' : Nat, n ≤ 24 ∧ av = .slice (some ⟨g', 0, none⟩) 25 25 ∧ nv = .int .i64 n ∧ Hid (SumInv w wr g' (.slice ma L mc) ys (permK s1 n)) ∧ Hid (Kept (fun _ => False) w3 wr)) (fun _ nv _ => 24 - (intOf nv).toNat)
          case atStart => exact ⟨0, g, by omega, rfl, rfl, HI3, Lib.hid (Kept.refl _ _)⟩
          case round =>
            obtain ⟨n, g', hn, rfl, rfl, hinv, hk3⟩ := hrel
            clear HI3
            by_cases hn1 : n < 24
            · have m0 : (n : Int) < 24 := by omega
              have m1 : (0 : Int) ≤ n := by omega
              have hc0 := ((HL3.out.kept hk3.out hgr3 (fun h => h)).cell n hn1)
              rw [Nat.zero_add] at hc0
              have hcl := rcs_lt n
              have hsu := permK_succ s1 n hn1
              have hpi := permK_inv H64.out HL25.out n (by omega)
              obtain ⟨c, hce⟩ : ∃ c, c = rcs.getD n 0 := ⟨_, rfl⟩
              rw [← hce] at hc0 hcl hsu
              have HC := Lib.hid ((HR'.out wr g' (permK s1 n) c hpi.1 hpi.2 hinv.out.a hinv.out.lt hcl))
              have HSU := Lib.hid hsu
              clear hsu hpi hce
              go_wp2_with fail
              refine HC.out.mono ?_
              rintro e w4 ⟨g4, rfl, hl4, hge4, hlt4, hk4⟩
              rw [← HSU.out] at hl4
              have HI4 := Lib.hid (hinv.out.move hk4 hl4 hge4 hlt4)
              have HK4 := Lib.hid (hk3.out.then hk4)
              clear hl4 hge4 hlt4 hk4 hinv hk3 HC
              go_wp2_with fail
              go_roundw
              case rel => first | exact ⟨n + 1, g4, by omega, rfl, by go_num, HI4, HK4⟩ | ((repeat apply Exists.intro); exact ⟨⟨n + 1, g4, by omega, rfl, by go_num, HI4, HK4⟩, rfl⟩)
              case measure => simp [intOf]; omega
            · obtain rfl : n = 24 := by omega
              have HI5 : Hid (SumInv w wr g' (.slice ma L mc) ys (absB (List.replicate 25 0) ys (q + 1))) := by rw [HNX1.out]; exact hinv
              clear hinv hk3
              have hkq' : k + 136 = 136 * (q + 1) := by have := HKQ.out; omega
              go_wp2_with fail
              go_roundw
              case rel => first | exact ⟨q + 1, k + 136, g', by omega, hkq', rfl, by go_num, HI5⟩ | ((repeat apply Exists.intro); exact ⟨⟨q + 1, k + 136, g', by omega, hkq', rfl, by go_num, HI5⟩, rfl⟩)
              case measure => simp [intOf]; omega
    · obtain rfl : q = Q := by omega
      have hkL : k = L := by have := HPL.out; omega
      subst hkL
      have hok := absB_ok HBY.out q
      have hdg := HDIG.out
      generalize absB (List.replicate 25 0) ys q = sq at hok hdg hinv
      have HOK := Lib.hid hok; have HDG := Lib.hid hdg; have HINV := hinv
      obtain ⟨go, hgo⟩ : ∃ z, z = wr.heap.size := ⟨_, rfl⟩
      have hke : Kept (fun _ => False) wr (wr.alloc (.cells (arr8 (List.replicate 32 0)).toArray 31)) := Kept.alloc _ _ _
      have hbe : Blk (wr.alloc (.cells (arr8 (List.replicate 32 0)).toArray 31)) wr.heap.size 0 (List.replicate 32 0) := blk_new _ _ _ _ rfl
      have hse : (wr.alloc (.cells (arr8 (List.replicate 32 0)).toArray 31)).heap.size = wr.heap.size + 1 := by simp
      rw [← hgo] at hbe hse
      have HKE := Lib.hid hke; have HBE := Lib.hid hbe; have HSE := Lib.hid hse
      clear HI hok hdg hinv HDIG HPL hkq hlt hqq hke hbe hse
      go_wp2_with fail
      simp only [← hgo]
      have hw0 : wr.alloc (.cells #[.int .u8 0, .int .u8 0, .int .u8 0, .int .u8 0, .int .u8 0, .int .u8 0, .int .u8 0, .int .u8 0, .int .u8 0, .int .u8 0, .int .u8 0, .int .u8 0, .int .u8 0, .int .u8 0, .int .u8 0, .int .u8 0, .int .u8 0, .int .u8 0, .int .u8 0, .int .u8 0, .int .u8 0, .int .u8 0, .int .u8 0, .int .u8 0, .int .u8 0, .int .u8 0, .int .u8 0, .int .u8 0, .int .u8 0, .int .u8 0, .int .u8 0, .int .u8 0] 31) = wr.alloc (.cells (arr8 (List.replicate 32 0)).toArray 31) := rfl
      rw [hw0]
      clear hw0
      generalize wr.alloc (.cells (arr8 (List.replicate 32 0)).toArray 31) = we at HKE HBE HSE ⊢
      have HLA := Lib.hid (HINV.out.a.kept HKE.out HINV.out.lt (fun h => h))
      have HOU := Lib.hid (HINV.out.out.kept HKE.out (by have := HINV.out.ge; have := HINV.out.lt; omega) (fun h => h))
      have HKW := Lib.hid (HINV.out.kept.then HKE.out)
      have hwg : w.heap.size < go := by rw [hgo]; have := HINV.out.ge; have := HINV.out.lt; omega
      have hgg : g < go := by rw [hgo]; exact HINV.out.lt
      have hge : go < we.heap.size := by rw [HSE.out]; omega
      clear HINV HKE HSE hgo
      go_loopw [10] (fun iv W => ∃ j : Nat, j ≤ 32 ∧ iv = .int .i64 j ∧ Hid (Blk W go 0 ((dig sq).take j ++ List.replicate (32 - j) 0)) ∧ Hid (Kept (fun i => i = go) we W)) (fun iv _ => 32 - (intOf iv).toNat)
      case atStart => exact ⟨0, by omega, rfl, HBE, Lib.hid (Kept.refl _ _)⟩
      case round =>
        obtain ⟨j, hj, rfl, hm, hkw⟩ := hrel
        clear HBE
        have hlen : ((dig sq).take j ++ List.replicate (32 - j) 0).length = 32 := by simp [dig_length]; omega
        by_cases hlt : j < 32
        · have hs1 := HLA.out.kept hkw.out (by omega) (by omega)
          obtain ⟨d, hd⟩ : ∃ d, d = j / 8 := ⟨_, rfl⟩
          obtain ⟨r, hr⟩ : ∃ r, r = j % 8 := ⟨_, rfl⟩
          obtain ⟨n, hnn⟩ : ∃ n, n = 8 * r := ⟨_, rfl⟩
          have c1 := hs1.cell d (by have := HOK.out.1; omega)
          obtain ⟨v, hv⟩ : ∃ v, v = sq.getD d 0 := ⟨_, rfl⟩
          rw [← hv] at c1
          obtain ⟨b, hb⟩ : ∃ b, b = v / 2 ^ n % 256 := ⟨_, rfl⟩
          have hdk : (dig sq).getD j 0 = b := by rw [dig_at sq j hlt, hb, hv, hnn, hr, hd]; rfl
          have dd := hm.out.cell j (by omega)
          have f := hm.out.free j (by omega)
          have hset := hm.out.set j b (by omega)
          rw [Nat.zero_add] at dd f hset c1
          rw [← hdk, fill_set (dig sq) 32 j (dig_length sq) hlt] at hset
          rw [hdk] at hset
          generalize ((dig sq).take j ++ List.replicate (32 - j) 0).getD j 0 = old at dd
          have kr := Kept.setCell (fun k => k = go) wr ⟨go, j, none⟩ (.int .u8 (b : Int)) rfl
          have K2 := hkw.out.trans kr (T := fun k => k = go) (fun _ _ h => h) (fun _ _ h => h)
          have HS := Lib.hid hset; have HK2 := Lib.hid K2
          have hE : (IntKind.u8.wrap ((v : Int) / 2 ^ n) = (b : Int)) ∧ ((j : Int).tdiv 8 = (d : Int)) ∧ ((j : Int) / 8 = (d : Int)) ∧ ((j : Int).tmod 8 = (r : Int)) ∧ ((j : Int) % 8 = (r : Int)) ∧ (IntKind.i64.wrap (8 * (r : Int)) = (n : Int)) ∧ (IntKind.i64.wrap (d : Int) = (d : Int)) := by
            refine ⟨byte_shift8 v n b hb, ?_, ?_, ?_, ?_, ?_, ?_⟩
            · rw [Int.tdiv_eq_ediv_of_nonneg (by omega)]; omega
            · omega
            · rw [Int.tmod_eq_emod_of_nonneg (by omega)]; omega
            · omega
            · rw [IntWalk.i64_in _ (by omega)]; omega
            · exact IntWalk.i64_in _ (by omega)
          have m0 : (j : Int) < 32 := by omega
          have m1 : (0 : Int) ≤ j := by omega
          have m2 : (0 : Int) ≤ d := by omega
          have m3 : (d : Int) < 25 := by omega
          have m4 : (0 : Int) ≤ n := by omega
          have m5 : n < 64 := by omega
          obtain ⟨bs, q1, q2, r1, r2, n1, w2'⟩ := hE
          clear hset K2 kr hm hkw hs1 hdk hb hv hlen hnn hr hd
          go_wp2_with fail
          clear bs q1 q2 r1 r2 n1 w2'
          go_roundw
          case rel => first | exact ⟨j + 1, by omega, by go_num, HS, HK2⟩ | ((repeat apply Exists.intro); exact ⟨⟨j + 1, by omega, by go_num, HS, HK2⟩, rfl⟩) | ((repeat apply Exists.intro); exact ⟨by omega, by go_num, HS, HK2⟩)
          case measure => simp [intOf]; omega
        · obtain rfl : j = 32 := by omega
          have hfull : (dig sq).take 32 ++ List.replicate (32 - 32) 0 = dig sq := by simp [List.take_of_length_le, dig_length]
          rw [hfull] at hm
          have hml := dig_length sq
          have hg1 := hm.out.get
          have hz := HOU.out.kept hkw.out (by omega) (by omega)
          have z1 : ∀ i, i < (arr8 (dig sq)).length → (wr.cell? ⟨w.heap.size, 0 + i, none⟩).isSome = true := fun i hi => by
            rw [arr8_length, hml] at hi; rw [hz.cell i (by simpa using hi)]; rfl
          have z2 : ∀ i, i < (arr8 (dig sq)).length → wr.frozen? ⟨w.heap.size, 0 + i, none⟩ = false := fun i hi => by
            rw [arr8_length, hml] at hi; exact hz.free i (by simpa using hi)
          have hsz25 : (Tryd.prog.info? 31).map (·.size) = some (arr8 (dig sq)).length := by rw [arr8_length, hml]; kernel_rfl
          have hfin := (hz.setCells (t := dig sq) (by simp [hml])).get
          have kr := Kept.setCells w.heap.size (arr8 (dig sq)) 0 wr
          have K2 := (HKW.out.trans hkw.out (T := fun _ => False) (fun _ _ h => h) (fun i hi e => by omega)).trans kr (T := fun _ => False) (fun _ _ h => h) (fun i hi e => by omega)
          have G1 := Lib.hid hg1; have Z1 := Lib.hid z1; have Z2 := Lib.hid z2; have HF := Lib.hid hfin; have HK2 := Lib.hid K2; have HS25 := Lib.hid hsz25
          have HO := Lib.hid (arr8_one (dig sq))
          clear hg1 z1 z2 hfin K2 kr hm hz hkw hfull hml hsz25 hlen
          obtain ⟨cs, hcs⟩ : ∃ cs, cs = arr8 (dig sq) := ⟨_, rfl⟩
          rw [← hcs] at G1 Z1 Z2 HF HK2 HS25 HO
          have HCS := Lib.hid hcs; clear hcs
          go_wp2_with (first | (refine wpList_load_at rfl 31 _ rfl go 0 rfl cs _ G1.out Tryd.underlying31 rfl HS25.out ?_) | (refine wpList_store_at rfl 31 _ _ rfl w.heap.size 0 cs rfl rfl Z1.out Z2.out HO.out HS25.out ?_))
          refine bodyPost_ret_by (v := .agg cs.toArray) ?_ ?_ ?_
          · exact results_cell_at Tryd.results14 _ _ w.heap.size cs _ rfl HF.out Tryd.underlying31 rfl HS25.out
          · rfl
          · exact ⟨by rw [HCS.out, HDG.out], HK2.out⟩
end Go.Proofs.YtncieckanngodaaDoor
