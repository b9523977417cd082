/-
  arbaclaw02.WireWrites returns true for every list of values; nothing that was there is changed.
-/
import Derived.Test.YtknphfednknajaaAwake
import Derived.Test.YtknphfednknajaaPutW
namespace Go.Proofs.Ytknphfednknajaa
open Go.RowKit

theorem encW_byte (c U : Nat) (S : Int) (bs : List Nat) (hb : ∀ b ∈ bs, b < 256) : ∀ b ∈ encV c U S bs, b < 256 := by
  have happ : ∀ (n : Nat) (l : List Nat), (∀ b ∈ l, b < 256) → ∀ b ∈ enc n ++ l, b < 256 := fun n l hl b h => by
    rcases List.mem_append.1 h with h | h
    · exact enc_byte n b h
    · exact hl b h
  unfold encV encFlag
  repeat' split
  all_goals first
    | exact enc_byte _
    | exact happ _ _ hb
    | exact hb
    | exact happ _ _ (bytesOf_byte _)
    | simp

theorem encW_len (c U : Nat) (S : Int) (bs : List Nat) (hl : bs.length ≤ 300) (hU : U < 18446744073709551616) (hS : -9223372036854775808 ≤ S ∧ S < 9223372036854775808) : (encV c U S bs).length ≤ 1000 := by
  have h1 := enc_len hU
  have h2 := enc_len (zz_lt S hS)
  have h3 := enc_len (v := bs.length) (by omega)
  have h5 := bytesOf_length (maskOf_small (membersOf bs))
  have h4 := enc_len (v := (bytesOf (maskOf (membersOf bs))).length) (by omega)
  unfold encV encFlag
  repeat' split
  all_goals first
    | omega
    | (simp only [List.length_append]; omega)
    | simp

/-- A value that lies in memory at an address: its four cells. -/
structure ValAt (w : World) (g o : Nat) (k U : Nat) (S : Int) (a : Option Addr) (n c : Nat) (bs : List Nat) (B : Nat) : Prop where
  c0 : w.cell? ⟨g, o, none⟩ = some (.int .u8 k)
  c1 : w.cell? ⟨g, o + 1, none⟩ = some (.int .u64 U)
  c2 : w.cell? ⟨g, o + 2, none⟩ = some (.int .i64 S)
  c3 : w.cell? ⟨g, o + 3, none⟩ = some (.slice a n c)
  b : Loose w (.slice a n c) bs B
  byte : ∀ x ∈ bs, x < 256
  hU : U < 18446744073709551616
  hS : -9223372036854775808 ≤ S ∧ S < 9223372036854775808

theorem ValAt.kept {w w' : World} {g o k U : Nat} {S : Int} {a : Option Addr} {n c : Nat} {bs : List Nat} {B : Nat} (h : ValAt w g o k U S a n c bs B) (hk : Kept (fun _ => False) w w') : ValAt w' g o k U S a n c bs B :=
  ⟨(hk.cell (World.block_lt_of_cell? w _ h.c0) (fun h => h)).trans h.c0, (hk.cell (World.block_lt_of_cell? w _ h.c1) (fun h => h)).trans h.c1, (hk.cell (World.block_lt_of_cell? w _ h.c2) (fun h => h)).trans h.c2,
    (hk.cell (World.block_lt_of_cell? w _ h.c3) (fun h => h)).trans h.c3, h.b.kept hk (fun _ _ h => h), h.byte, h.hU, h.hS⟩

/-- A list of values in memory: it is empty, or its elements lie there. -/
def Vals (w : World) (v : Value) (N B : Nat) : Prop :=
  ((∃ a c, v = .slice a 0 c) ∧ N = 0) ∨
  ∃ g off cap, v = .slice (some ⟨g, off, none⟩) N cap ∧ ∀ i, i < N → ∃ k U S a n c bs, ValAt w g (off + i * 4) k U S a n c bs B

/-- 'append(want, q...)' where q lies in memory, or is empty at whatever address. -/
theorem wpList_append_loose {w : World} {ops : Array Oper} {rest : List Oper} {o : Oper} {a : Act} {Q : Exit → Act → World → Prop} (hgd : o.guard = none) (s x : Operand)
    (ho : o.op = .call { callee := .builtin .append, args := #[s, x], argTypes := #[26, 26] })
    (base : Nat) (v : Value) (n : Nat) (xs : List Nat) (hs : a.eval s = v) (hown : w.ownsRow base 5 1 v n (bv xs)) (q : Value) (E : List Nat) (C : Nat) (hx : a.eval x = q) (hq : Loose w q E C) (hl : n + E.length ≤ 1000000) (hbase : base ≤ w.heap.size)
    (h : ∀ v' w', w'.ownsRow base 5 1 v' (n + E.length) (bv xs ++ bv E) → w.grownBy w' v.ownBlock → (v'.ownBlock = v.ownBlock ∨ v'.ownBlock = some w.heap.size) → wpList Try.prog ops Q rest (a.put o.dst v') w') : wpList Try.prog ops Q (o :: rest) a w := by
  obtain ⟨i0, hi, hz0, hz1, hz2⟩ := info_parts info_u8
  have key : ∀ (ad : Addr) (c : Nat), q = .slice (some ad) E.length c → (∀ j u, (bv E)[j]? = some u → w.cell? (ad.add j) = some u) → wpList Try.prog ops Q (o :: rest) a w := fun ad c hqf hcells =>
    wpList_append_own_at w hgd s x _ ho base 5 i0 _ 1 1 Try.underlying26 hi hz0 hz1 hz2 rfl (by omega) v n (bv xs) hs hown ad E.length c (bv E) (by rw [hx, hqf]) (by rw [bv_length, Nat.mul_one]) hcells (bv_oneCell _) (by unfold maxLen; omega) (by omega) hbase
      fun v' w' h1 h2 _ h4 => h v' w' h1 h2 h4
  rcases hq with ⟨hq, _⟩ | ⟨y, rfl, rfl⟩
  · rcases hq with ⟨rfl, rfl⟩ | ⟨g, off, cap, rfl, h1, h2, h3, h4⟩
    · exact wpList_append_own_none hgd s x _ ho base 5 i0 1 Try.underlying26 hi v n (bv xs) hs hown hx (h v w (by simpa [bv] using hown) ⟨rfl, rfl, rfl, Nat.le_refl _, fun _ _ _ => rfl⟩ (Or.inl rfl))
    · refine key ⟨g, off, none⟩ cap rfl fun j u hu => ?_
      have hadd : (⟨g, off, none⟩ : Addr).add j = ⟨g, off + j, none⟩ := by unfold Addr.add; split <;> simp_all
      have hj : j < E.length := by
        have := (List.getElem?_eq_some_iff.1 hu).1
        rwa [bv_length] at this
      rw [hadd, h4 j hj, ← bv_getD E j hj]; exact hu
  · exact key y 0 rfl fun j u hu => by simp [bv] at hu

/-- What the loop keeps: the writer and 'want' hold the same bytes, in rows of their own. -/
def WInv (w wr : World) (wb : Nat) (wv : Value) (k : Nat) : Prop :=
  ∃ u ys, Wr wr wb u w.heap.size ys ∧ wr.ownsRow w.heap.size 5 1 wv ys.length (bv ys) ∧ wv.ownBlock ≠ some wb ∧ (∀ j, wv.ownBlock = some j → u.ownBlock ≠ some j) ∧ ys.length ≤ 1000 * k ∧ (∀ b ∈ ys, b < 256) ∧ Kept (fun _ => False) w wr

set_option maxRecDepth 100000 in
set_option maxHeartbeats 3200000 in
theorem writes_at (g off cap N : Nat) (w : World) (hv : Hid (∀ i, i < N → ∃ k U S a n c bs, ValAt w g (off + i * 4) k U S a n c bs w.heap.size)) :
    Calls Try.prog 3 #[.slice (some ⟨g, off, none⟩) N cap] w fun e w' => e = .returned (.bool true) ∧ Below w.heap.size w w' := by
  obtain ⟨i0, hi, hz0, hz1, hz2⟩ := info_parts info_u8
  go_enter Try.func3, Try.ntmps3
  go_wp2_with fail
  refine (awake_any w).mono ?_
  rintro e w0 ⟨rfl, hk0⟩
  go_wp2_with fail
  refine (newWriter_any w0).mono ?_
  rintro e w1 ⟨rfl, hw1⟩
  have hk1 : Kept (fun _ => False) w0 w1 := by rw [hw1]; exact Kept.alloc _ _ _
  have hwr1 : Wr w1 w0.heap.size (.slice none 0 0) w.heap.size [] := by rw [hw1]; exact wr_new w0 w.heap.size hk0.size
  have HI : Hid (WInv w w1 w0.heap.size (.slice none 0 0) 0) := ⟨_, [], hwr1, World.ownsRow_nil _ _ _ _, by simp [Value.ownBlock], by intro j h; simp [Value.ownBlock] at h, by simp, by simp, hk0.then hk1⟩
  have hwb : w.heap.size ≤ w0.heap.size := hk0.size
  clear hk0 hk1 hwr1 hw1
  go_wp2_with fail
  go_loopw [4, 5] (fun wv iv wr => ∃ k : Nat, k ≤ 40 ∧ iv = .int .i64 k ∧ Hid (WInv w wr w0.heap.size wv k)) (fun _ iv _ => 40 - (intOf iv).toNat)
  case atStart => exact ⟨0, by omega, rfl, HI⟩
  case round =>
    obtain ⟨k, hk, rfl, hinv⟩ := hrel
    by_cases hlt : k < N ∧ k < 40
    · have hl1 : (k : Int) < (N : Int) := by omega
      have hl2 : (k : Int) < 40 := by omega
      have hl0 : (0 : Int) ≤ (k : Int) := by omega
      obtain ⟨kk, U, S, a, n, c, bs, hval⟩ := hv.out k hlt.1
      obtain ⟨u, ys, hwr, hown, hwb1, hwb2, hyl, hyb, hkw⟩ := hinv.out
      have hval2 := hval.kept hkw
      have c0 := hval2.c0; have c1 := hval2.c1; have c2 := hval2.c2; have c3 := hval2.c3
      have hin : PutInL wr w0.heap.size u w.heap.size ys (.slice a n c) bs := ⟨hwr, by omega, hval2.b, hval2.byte⟩
      have HIN := Lib.hid hin; have HOWN := Lib.hid hown; have HW1 := Lib.hid hwb1; have HW2 := Lib.hid hwb2; have HYL := Lib.hid hyl; have HYB := Lib.hid hyb; have HKW := Lib.hid hkw; have HVAL := Lib.hid hval2
      clear hin hown hwb1 hwb2 hyl hyb hkw hval hval2 hwr hinv
      go_wp2_with fail
      refine (put_loose wr w0.heap.size kk U S u w.heap.size ys a n c bs HIN.out HVAL.out.hU HVAL.out.hS).mono ?_
      rintro e w2 ⟨q, rfl, u2', hw2, hs2, hq2⟩
      have hkU : u4.ownBlock ≠ some w0.heap.size := HW1.out
      have hown2 := hs2.kept.owns HOWN.out (fun j hj => by
        rintro (e | e)
        · exact HW1.out (by rw [hj, e])
        · exact HW2.out j hj e)
      have hEl := encW_len (kk % 7) U S (bs.take 300) (by simp; omega) HVAL.out.hU HVAL.out.hS
      have hEb := encW_byte (kk % 7) U S (bs.take 300) (fun b hb => HVAL.out.byte b (List.mem_of_mem_take hb))
      generalize encV (kk % 7) U S (bs.take 300) = E at hw2 hq2 hEl hEb
      have hu42 : ∀ j, u4.ownBlock = some j → u2'.ownBlock ≠ some j := fun j hj e => by
        have hjl := (HOWN.out.lt j hj).2
        rcases hs2.row with h | h
        · exact HW2.out j hj (by rw [← h]; exact e)
        · have := h j e; omega
      have hkw2 : Kept (fun _ => False) w w2 := HKW.out.trans hs2.kept (fun _ _ h => h) (fun i hi e => HIN.out.wr.low hi e)
      have hyl2 : ys.length + E.length ≤ 1000 * (k + 1) := by have := HYL.out; omega
      have HQ := Lib.hid hq2; have HO2 := Lib.hid hown2; have HWR := Lib.hid hw2; have HU := Lib.hid hu42; have HEB := Lib.hid hEb; have HK2 := Lib.hid hkw2
      have hB2 := hkw2.size
      clear hq2 hown2 hw2 hs2 hu42 hEb hkw2 c0 c1 c2 c3 HOWN HIN HVAL
      go_wp2_with (at_builtin; refine wpList_append_loose rfl _ _ rfl w.heap.size u4 ys.length ys rfl HO2.out q E w2.heap.size rfl HQ.out (by omega) hB2 ?_)
      intro v3 w3 hown3 hgrow3 hat3
      rw [← bv_append, ← List.length_append] at hown3
      have hk23 : Kept (blk u4) w2 w3 := Kept.ofGrown (S := blk u4) hgrow3 (fun k e => e)
      have hwr3 := HWR.out.kept hk23 HW1.out (fun j hj e => HU.out j e hj)
      have hkw3 : Kept (fun _ => False) w w3 := HK2.out.trans hk23 (fun _ _ h => h) (fun i hi e => by have := (HO2.out.lt i e).1; omega)
      have hv3b : v3.ownBlock ≠ some w0.heap.size := by
        rcases hat3 with h | h
        · rw [h]; exact HW1.out
        · rw [h]; intro e; have := HWR.out.lt; injection e with e; omega
      have hv3u : ∀ j, v3.ownBlock = some j → u2'.ownBlock ≠ some j := fun j hj e => by
        rcases hat3 with h | h
        · exact HU.out j (by rw [← h]; exact hj) e
        · rw [h] at hj; injection hj with hj; have := (HWR.out.own.lt j e).2; omega
      obtain ⟨zs, hzs⟩ : ∃ zs, zs = ys ++ E := ⟨_, rfl⟩
      have hzl : zs.length ≤ 1000 * (k + 1) := by rw [hzs, List.length_append]; exact hyl2
      have hzb : ∀ b ∈ zs, b < 256 := fun b hb => by
        rw [hzs] at hb
        rcases List.mem_append.1 hb with h | h
        · exact HYB.out b h
        · exact HEB.out b h
      rw [← hzs] at hown3 hwr3
      have HO3 := Lib.hid hown3; have HW3 := Lib.hid hwr3; have HK3 := Lib.hid hkw3; have HVB := Lib.hid hv3b; have HVU := Lib.hid hv3u; have HZB := Lib.hid hzb
      clear hgrow3 hat3 hk23 hown3 hwr3 hkw3 hv3b hv3u hzb hzs HQ HO2 HWR HU HEB HK2 HYB hkU HW1 HW2 HYL hyl2
      go_wp2_with fail
      refine (out_any w3 w0.heap.size u2' zs HW3.out.reads (by omega) HW3.out.cell).mono ?_
      rintro e w4 ⟨gv, rfl, hf4, hk4⟩
      obtain ⟨L, hL⟩ : ∃ L, L = zs.length := ⟨_, rfl⟩
      obtain ⟨ga, gc, hgf⟩ := own_form hf4.own
      rw [← hL] at hgf
      have hown4 := hf4.own
      rw [← hL] at hown4
      have hrd4 := hf4.reads
      subst hgf
      have HO4 := Lib.hid hown4; have HR4 := Lib.hid hrd4; have HL := Lib.hid hL; have HK4 := Lib.hid hk4
      have hL2 : L ≤ 1000 * (k + 1) := by rw [hL]; exact hzl
      clear hown4 hrd4 hL hk4 hf4
      go_wp2_with fail
      refine (same_any w4 _ v3 zs zs HR4.out ((Reads.ofOwns HO3.out).kept HK4.out (fun _ _ h => h)) HZB.out HZB.out).mono ?_
      rw [show decide (zs = zs) = true by simp]
      rintro e w40 ⟨rfl, rfl⟩
      go_wp2_with fail
      go_loopw [37] (fun iv wx => ∃ m : Nat, m ≤ L ∧ iv = .int .i64 m ∧ Hid (∃ xs : List Nat, wx.ownsRow w3.heap.size 5 1 (.slice ga L gc) L (bv xs)) ∧ Kept (fun j => (Value.slice ga L gc).ownBlock = some j) w4 wx) (fun iv _ => L - (intOf iv).toNat)
      case atStart => exact ⟨0, by omega, rfl, ⟨zs, HO4.out⟩, Kept.refl _ _⟩
      case round =>
        obtain ⟨m, hm, rfl, ho, hkx⟩ := hrel
        by_cases hlt2 : m < L
        · have hm1 : (m : Int) < (L : Int) := by omega
          have hm0 : (0 : Int) ≤ (m : Int) := by omega
          obtain ⟨xs, hx⟩ := ho.out
          obtain ⟨g2, cap2, hgf, _, _⟩ := hx.form (by omega)
          injection hgf with e1 e2 e3
          subst e1
          have hxl : xs.length = L := by have := hx.1; simpa [bv_length] using this
          obtain ⟨z, hz⟩ : ∃ z, z = xs.getD m 0 := ⟨_, rfl⟩
          obtain ⟨z2, hz2'⟩ : ∃ z2, z2 = (z + 1) % 256 := ⟨_, rfl⟩
          have cz : wr.cell? ⟨g2, m, none⟩ = some (.int .u8 z) := by
            rw [hx.cellAt m (by omega), bv_getD _ _ (by omega), hz]
          have fz : wr.frozen? ⟨g2, m, none⟩ = false := hx.frozenAt m
          have hzw : IntKind.u8.wrap ((z : Int) + 1) = (z2 : Int) := by rw [IntKind.wrap_u8', hz2']; omega
          have HX := Lib.hid hx; clear hx hz2' hz
          go_wp2_with fail
          go_roundw
          case rel =>
            have hst := HX.out.stored m (.int .u8 (z2 : Int))
            rw [bv_set] at hst
            exact ⟨m + 1, by omega, by go_num, ⟨_, hst.1⟩, hkx.trans (Kept.setCell (fun j => (Value.slice (some ⟨g2, 0, none⟩) L gc).ownBlock = some j) _ _ _ rfl) (fun _ _ h => h) (fun _ _ h => h)⟩
          case measure => simp [intOf]; omega
        · have hm1 : (L : Int) ≤ (m : Int) := by omega
          have hkx4 : Kept (fun _ => False) w3 wr := HK4.out.trans hkx (fun _ _ h => h) (fun i hi e => by have := (HO4.out.lt i e).1; omega)
          have HKX := Lib.hid hkx4; clear hkx4 hkx
          go_wp2_with fail
          go_roundw
          case rel =>
            refine ⟨k + 1, by omega, by go_num, ⟨u2', zs, HW3.out.kept HKX.out (fun h => h) (fun _ _ h => h), HKX.out.owns HO3.out (fun _ _ h => h), HVB.out, HVU.out, hzl, HZB.out, HK3.out.then HKX.out⟩⟩
          case measure => simp [intOf]; omega
    · obtain ⟨u, ys, hwr, hown, hwb1, hwb2, hyl, hyb, hkw⟩ := hinv.out
      have HW := Lib.hid hwr; have HOWN := Lib.hid hown; have HYB := Lib.hid hyb; have HKW := Lib.hid hkw
      have hyl2 : ys.length ≤ 40000 := by omega
      clear hwr hown hwb1 hwb2 hyb hkw hinv hyl
      have hcase : (¬ (k : Int) < (N : Int)) ∨ ((k : Int) < (N : Int) ∧ ¬ (k : Int) < 40) := by omega
      rcases hcase with hc1 | ⟨hc1, hc2⟩
      all_goals
        go_wp2_with fail
        refine (out_any wr w0.heap.size u ys HW.out.reads (by omega) HW.out.cell).mono ?_
        rintro e w4 ⟨gv, rfl, hf4, hk4⟩
        have HR4 := Lib.hid hf4.reads; have HK4 := Lib.hid hk4; clear hf4 hk4
        go_wp2_with fail
        refine (same_any w4 gv _ ys ys HR4.out ((Reads.ofOwns HOWN.out).kept HK4.out (fun _ _ h => h)) HYB.out HYB.out).mono ?_
        rw [show decide (ys = ys) = true by simp]
        rintro e w40 ⟨rfl, rfl⟩
        go_wp2_with fail
        go_ret
        exact ⟨rfl, (HKW.out.then HK4.out).below (Nat.le_refl _) (fun _ h => h.elim)⟩

set_option maxRecDepth 100000 in
set_option maxHeartbeats 1600000 in
theorem writes_zero (a : Option Addr) (c : Nat) (w : World) :
    Calls Try.prog 3 #[.slice a 0 c] w fun e w' => e = .returned (.bool true) ∧ Below w.heap.size w w' := by
  go_enter Try.func3, Try.ntmps3
  go_wp2_with fail
  refine (awake_any w).mono ?_
  rintro e w0 ⟨rfl, hk0⟩
  go_wp2_with fail
  refine (newWriter_any w0).mono ?_
  rintro e w1 ⟨rfl, hw1⟩
  have hk1 : Kept (fun _ => False) w0 w1 := by rw [hw1]; exact Kept.alloc _ _ _
  have hwr1 : Wr w1 w0.heap.size (.slice none 0 0) w.heap.size [] := by rw [hw1]; exact wr_new w0 w.heap.size hk0.size
  have HW := Lib.hid hwr1; have HK := Lib.hid (hk0.then hk1)
  clear hk0 hk1 hwr1 hw1
  go_wp2_with fail
  go_loopw [4, 5] (fun wv iv wr => wv = .slice none 0 0 ∧ iv = .int .i64 0 ∧ wr = w1) (fun _ _ _ => 0)
  case atStart => exact ⟨rfl, rfl, rfl⟩
  case round =>
    obtain ⟨rfl, rfl, hwr⟩ := hrel
    subst hwr
    go_wp2_with fail
    refine (out_any wr w0.heap.size _ [] HW.out.reads (by simp) HW.out.cell).mono ?_
    rintro e w4 ⟨gv, rfl, hf4, hk4⟩
    have HR4 := Lib.hid hf4.reads; have HK4 := Lib.hid hk4; clear hf4 hk4
    go_wp2_with fail
    refine (same_any w4 gv _ [] [] HR4.out (Or.inl ⟨rfl, rfl⟩) (by simp) (by simp)).mono ?_
    rintro e w40 ⟨rfl, rfl⟩
    go_wp2_with fail
    go_ret
    exact ⟨rfl, (HK.out.then HK4.out).below (Nat.le_refl _) (fun _ h => h.elim)⟩

theorem writes_any (v : Value) (N : Nat) (w : World) (h : Vals w v N w.heap.size) :
    Calls Try.prog 3 #[v] w fun e w' => e = .returned (.bool true) ∧ Below w.heap.size w w' := by
  rcases h with ⟨⟨a, c, rfl⟩, _⟩ | ⟨g, off, cap, rfl, hv⟩
  · exact writes_zero a c w
  · exact writes_at g off cap N w hv

end Go.Proofs.Ytknphfednknajaa
