/-
  arbaclaw03.KeccakCopies returns true.
-/
import Derived.Test.YtnjmffmdlaobdabDoorKecResets
import Derived.Maps.AppendAt
import Derived.Laws.AppendOwnNone
namespace Go.Proofs.YtnjmffmdlaobdabDoor
open Go.RowKit

/-- 'append(v, y...)' where v is a row of the call's own and y reads as bytes. -/
theorem append_reads_run {W : World} {B : Nat} {v y : Value} {xs ys : List Nat} (h : Fresh W B v xs) (hy : Reads W y ys) (hl : xs.length + ys.length ≤ 1000000) (hB : B ≤ W.heap.size) :
    ∃ a c w', (Builtin.append_ #[22, 22] 22 #[v, y]).run Tryd.prog W = .ok (.slice a (xs ++ ys).length c) w' ∧ Fresh w' B (.slice a (xs ++ ys).length c) (xs ++ ys) ∧ Kept (blk v) W w' := by
  obtain ⟨i0, hi, hz0, hz1, hz2⟩ := info_parts info_u8c
  have key : ∃ v' w', (Builtin.append_ #[22, 22] 22 #[v, y]).run Tryd.prog W = .ok v' w' ∧ Fresh w' B v' (xs ++ ys) ∧ Kept (blk v) W w' := by
    rcases hy with ⟨rfl, rfl⟩ | ⟨g, off, cap, rfl, h1, h2, h3, h4⟩
    · exact ⟨v, W, run_append_owned_none W B 22 22 5 i0 1 Tryd.underlying22 hi v _ _ h.own, by rw [List.append_nil]; exact h, Kept.refl _ _⟩
    · have hcells : ∀ j u, (bv ys)[j]? = some u → W.cell? ((⟨g, off, none⟩ : Addr).add j) = some u := fun j u hu => by
        have hadd : (⟨g, off, none⟩ : Addr).add j = ⟨g, off + j, none⟩ := by unfold Addr.add; split <;> simp_all
        have hj : j < ys.length := by
          have := (List.getElem?_eq_some_iff.1 hu).1
          rwa [bv_length] at this
        rw [hadd, h4 j hj, ← bv_at8 ys j hj]; exact hu
      obtain ⟨v', w', hr, ho, hg, _, _⟩ := run_append_own_at (P := Tryd.prog) W B 22 22 5 i0 _ 1 1 Tryd.underlying22 hi hz0 hz1 hz2 rfl (by omega) v xs.length (bv xs) h.own ⟨g, off, none⟩ ys.length cap (bv ys)
        (by rw [bv_length, Nat.mul_one]) hcells (bv_oneCell _) (by unfold maxLen; omega) (by omega) hB
      exact ⟨v', w', hr, ⟨by rw [List.length_append, bv_append]; exact ho, fun k hk => (ho.lt k hk).1⟩, Kept.ofGrown (S := blk v) hg fun k e => e⟩
  obtain ⟨v', w', hr, hf, hk⟩ := key
  obtain ⟨a, c, rfl⟩ := hf.reads.form
  exact ⟨a, c, w', hr, hf, hk⟩
/-- append(append([]byte{}, x...), y...) -/
theorem cat_run (W : World) (px py : Value) (xs ys : List Nat) (hx : Reads W px xs) (hy : Reads W py ys) (hl : xs.length + ys.length ≤ 1000000) :
    ∃ a1 c1 w1 a2 c2 w2, (Builtin.append_ #[22, 22] 22 #[.slice (some ⟨W.heap.size, 0, none⟩) 0 0, px]).run Tryd.prog (W.alloc (.cells #[] 5)) = .ok (.slice a1 xs.length c1) w1 ∧
      (Builtin.append_ #[22, 22] 22 #[.slice a1 xs.length c1, py]).run Tryd.prog w1 = .ok (.slice a2 (xs ++ ys).length c2) w2 ∧ Reads w2 (.slice a2 (xs ++ ys).length c2) (xs ++ ys) ∧ Kept (fun _ => False) W w2 := by
  have ka : Kept (fun _ => False) W (W.alloc (.cells #[] 5)) := Kept.alloc _ _ _
  have h0 : Fresh (W.alloc (.cells #[] 5)) W.heap.size (.slice (some ⟨W.heap.size, 0, none⟩) 0 0) [] := ⟨owns_lit W W.heap.size #[] [] 0 rfl rfl (Nat.le_refl _) (by simp), fun k hk => by simp [Value.ownBlock] at hk; omega⟩
  obtain ⟨a1, c1, w1, r1, f1, k1⟩ := append_reads_run h0 (hx.kept ka (fun _ _ h => h)) (by simp; omega) ka.size
  rw [List.nil_append] at r1 f1
  have K1 : Kept (fun _ => False) W w1 := ka.trans k1 (fun _ _ h => h) (fun i hi e => by have := h0.block i e; omega)
  obtain ⟨a2, c2, w2, r2, f2, k2⟩ := append_reads_run f1 (hy.kept K1 (fun _ _ h => h)) hl K1.size
  exact ⟨a1, c1, w1, a2, c2, w2, r1, r2, f2.reads, K1.trans k2 (fun _ _ h => h) (fun i hi e => by have := f1.block i e; omega)⟩

/-- An append whose run is known, asked for or not (a guard that holds). -/
theorem wpList_append_run {P : Program} {w : World} {ops : Array Oper} {rest : List Oper} {o : Oper} {a : Act} {Q : Exit → Act → World → Prop} (hw : Region.wanted o (yielded ops a.tmps) = true) (s x : Operand) (t t' : TypeId)
    (ho : o.op = .call { callee := .builtin .append, args := #[s, x], argTypes := #[t, t'] }) (v u : Value) (hd : a.eval s = v) (hs : a.eval x = u) {v' : Value} {w' : World}
    (hr : (Builtin.append_ #[t, t'] o.type #[v, u]).run P w = .ok v' w') (h : wpList P ops Q rest (a.put o.dst v') w') : wpList P ops Q (o :: rest) a w := by
  refine wpList_step fun K hK => ?_
  rw [if_pos hw]
  unfold Oper.wp execOp
  simp only [ho, resolve, invoke, builtin, Sem.run_bind, Sem.run_pure, Result.andThen_ok, List.map_toArray, List.map_cons, List.map_nil, hd, hs, hr]
  exact hK _ _ h

set_option maxRecDepth 100000 in
set_option maxHeartbeats 1600000 in
theorem copies_any (pa pb pc : Value) (xa xb xc : List Nat) (w : World) (hT : KTab w) (ha : InBytes w pa xa) (hb : InBytes w pb xb) (hc : InBytes w pc xc) :
    Calls Tryd.prog 5 #[pa, pb, pc] w fun e w' => e = .returned (.bool true) ∧ Kept (fun _ => False) w w' := by
  obtain ⟨aa, ca, hfa⟩ := ha.reads.form
  obtain ⟨ab, cb, hfb⟩ := hb.reads.form
  obtain ⟨ac, cc, hfc⟩ := hc.reads.form
  subst hfa hfb hfc
  have HT := Lib.hid hT
  have ra := short_in ha; have rb := short_in hb; have rc := short_in hc
  have la := take600 xa; have lb := take600 xb; have lc := take600 xc
  have ya : ∀ x ∈ xa.take 600, x < 256 := fun x hx => ha.byte x (List.mem_of_mem_take hx)
  have yb : ∀ x ∈ xb.take 600, x < 256 := fun x hx => hb.byte x (List.mem_of_mem_take hx)
  have yc : ∀ x ∈ xc.take 600, x < 256 := fun x hx => hc.byte x (List.mem_of_mem_take hx)
  have SA := fun (W : World) (hk : Kept (fun _ => False) w W) => short_any W aa xa ca (ha.reads.kept hk (fun _ _ h => h))
  have SB := fun (W : World) (hk : Kept (fun _ => False) w W) => short_any W ab xb cb (hb.reads.kept hk (fun _ _ h => h))
  have SC := fun (W : World) (hk : Kept (fun _ => False) w W) => short_any W ac xc cc (hc.reads.kept hk (fun _ _ h => h))
  have oa := ra.lt; have ob := rb.lt; have oc := rc.lt
  generalize xa.take 600 = sa at *
  generalize xb.take 600 = sb at *
  generalize xc.take 600 = sc at *
  have HRA := Lib.hid ra; have HRB := Lib.hid rb; have HRC := Lib.hid rc; have HYA := Lib.hid ya; have HYB := Lib.hid yb; have HYC := Lib.hid yc; have HSA := Lib.hid SA; have HSB := Lib.hid SB; have HSC := Lib.hid SC; have HOA := Lib.hid oa; have HOB := Lib.hid ob; have HOC := Lib.hid oc
  clear hT ha hb hc ra rb rc ya yb yc SA SB SC oa ob oc
  go_enter Tryd.func5, Tryd.ntmps5
  go_wp2_with fail
  refine (awake3_any w HT.out).mono ?_
  rintro e w0 ⟨rfl, k0⟩
  have K0 := Lib.hid k0
  have hg : w.heap.size ≤ w0.heap.size := k0.size
  clear k0
  go_wp2_with fail
  refine (HSA.out w0 K0.out).mono ?_
  rintro e w2 ⟨rfl, rfl⟩
  go_wp2_with fail
  refine (HSB.out w0 K0.out).mono ?_
  rintro e w2 ⟨rfl, rfl⟩
  go_wp2_with fail
  refine (HSC.out w0 K0.out).mono ?_
  rintro e w2 ⟨rfl, rfl⟩
  go_wp2_with fail
  refine (new_any w0).mono ?_
  rintro e w1 ⟨rfl, h1, k01, n1⟩
  have K1 := Lib.hid (K0.out.then k01)
  have H1 := Lib.hid h1
  clear h1 k01 K0
  have HN : Hid (NoTab w0.heap.size) := HT.out.fresh hg
  generalize w0.heap.size = g at *
  go_wp2_with fail
  refine (write_any w1 g 0 [] _ sa H1.out n1 (HT.out.kept K1.out (fun _ _ h => h)) HN.out (HRA.out.kept K1.out (fun _ _ h => h)) HYA.out (fun k hk e => by have := HOA.out k hk; omega) (by simp; omega)).mono ?_
  rintro e w2 ⟨rfl, h2, kr2⟩
  rw [List.nil_append] at h2
  have K2 := Lib.hid (K1.out.trans kr2.kept (T := fun _ => False) (fun _ _ h => h) (fun i hi e => by omega))
  have n2 := Nat.lt_of_lt_of_le n1 kr2.kept.size
  have H2 := Lib.hid h2
  clear h2 kr2 H1 K1
  go_wp2_with fail
  refine (copy_any w2 g 0 sa H2.out).mono ?_
  rintro e w3 ⟨rfl, h3, k3, n3⟩
  have H3 := Lib.hid h3
  have H3g := Lib.hid (H2.out.kept k3 n2 (fun h => h))
  have K3 := Lib.hid (K2.out.then k3)
  have hg2 : g < w2.heap.size := n2
  have n3g := Nat.lt_of_lt_of_le n2 k3.size
  have hw2 : w.heap.size ≤ w2.heap.size := K2.out.size
  have HN2 : Hid (NoTab w2.heap.size) := HT.out.fresh hw2
  clear h3 k3 H2 K2
  generalize w2.heap.size = g2 at *
  go_wp2_with fail
  refine (write_any w3 g 0 sa _ sb H3g.out n3g (HT.out.kept K3.out (fun _ _ h => h)) HN.out (HRB.out.kept K3.out (fun _ _ h => h)) HYB.out (fun k hk e => by have := HOB.out k hk; omega) (by omega)).mono ?_
  rintro e w4 ⟨rfl, h4, kr4⟩
  have H4 := Lib.hid h4
  have H4k := Lib.hid (H3.out.kept kr4.kept n3 (by omega))
  have K4 := Lib.hid (K3.out.trans kr4.kept (T := fun _ => False) (fun _ _ h => h) (fun i hi e => by omega))
  have n4 := Nat.lt_of_lt_of_le n3g kr4.kept.size
  have n4k := Nat.lt_of_lt_of_le n3 kr4.kept.size
  clear h4 kr4 H3 H3g K3 n3 n3g n1
  go_wp2_with fail
  refine (write_any w4 g2 0 sa _ sc H4k.out n4k (HT.out.kept K4.out (fun _ _ h => h)) HN2.out (HRC.out.kept K4.out (fun _ _ h => h)) HYC.out (fun k hk e => by have := HOC.out k hk; omega) (by omega)).mono ?_
  rintro e w5 ⟨rfl, h5, kr5⟩
  have H5k := Lib.hid h5
  have H5 := Lib.hid (H4.out.kept kr5.kept n4 (by omega))
  have K5 := Lib.hid (K4.out.trans kr5.kept (T := fun _ => False) (fun _ _ h => h) (fun i hi e => by omega))
  have n5 := Nat.lt_of_lt_of_le n4 kr5.kept.size
  have n5k := Nat.lt_of_lt_of_le n4k kr5.kept.size
  clear h5 kr5 H4 H4k K4 n4 n4k
  have bab : ∀ x ∈ sa ++ sb, x < 256 := fun x hx => (List.mem_append.1 hx).elim (HYA.out x) (HYB.out x)
  have bac : ∀ x ∈ sa ++ sc, x < 256 := fun x hx => (List.mem_append.1 hx).elim (HYA.out x) (HYC.out x)
  have lab : (sa ++ sb).length = sa.length + sb.length := List.length_append
  have lac : (sa ++ sc).length = sa.length + sc.length := List.length_append
  have CAB := Lib.hid (fun (W : World) (hk : Kept (fun _ => False) w W) => cat_run W _ _ sa sb (HRA.out.kept hk (fun _ _ h => h)) (HRB.out.kept hk (fun _ _ h => h)) (by omega))
  have CAC := Lib.hid (fun (W : World) (hk : Kept (fun _ => False) w W) => cat_run W _ _ sa sc (HRA.out.kept hk (fun _ _ h => h)) (HRC.out.kept hk (fun _ _ h => h)) (by omega))
  obtain ⟨sab, hsab⟩ : ∃ s, s = sa ++ sb := ⟨_, rfl⟩
  obtain ⟨sac, hsac⟩ : ∃ s, s = sa ++ sc := ⟨_, rfl⟩
  rw [← hsab] at H5 bab lab CAB
  rw [← hsac] at H5k bac lac CAC
  have BAB := Lib.hid bab; have BAC := Lib.hid bac
  have e1 : IntKind.i64.wrap ((sa.length : Int) + sb.length) = (sab.length : Int) := by rw [IntWalk.i64_in _ (by omega)]; omega
  have e2 : IntKind.i64.wrap ((sa.length : Int) + sc.length) = (sac.length : Int) := by rw [IntWalk.i64_in _ (by omega)]; omega
  have e3 : IntKind.u64.wrap (sab.length : Int) = (sab.length : Int) := IntWalk.u64_in _ (by omega)
  have e4 : IntKind.u64.wrap (sac.length : Int) = (sac.length : Int) := IntWalk.u64_in _ (by omega)
  have lab62 : sab.length < 2 ^ 62 := by omega
  have lac62 : sac.length < 2 ^ 62 := by omega
  clear bab bac hsab hsac lab lac
  go_wp2_with fail
  refine (hsum_any w5 g 0 sab H5.out n5 (HT.out.kept K5.out (fun _ _ h => h)) (by omega)).mono ?_
  rintro e w6 ⟨rfl, k6⟩
  have H6 := Lib.hid (H5.out.kept k6 n5 (fun h => h))
  have H6k := Lib.hid (H5k.out.kept k6 n5k (fun h => h))
  have K6 := Lib.hid (K5.out.then k6)
  have n6 := Nat.lt_of_lt_of_le n5 k6.size
  have n6k := Nat.lt_of_lt_of_le n5k k6.size
  clear k6 H5 H5k K5 n5 n5k
  obtain ⟨p1, q1, v1, p2, q2, w7, r1, r2, rd7, k7⟩ := CAB.out w6 K6.out
  have R7 := Lib.hid rd7
  have H7 := Lib.hid (H6.out.kept k7 n6 (fun h => h))
  have H7k := Lib.hid (H6k.out.kept k7 n6k (fun h => h))
  have K7 := Lib.hid (K6.out.then k7)
  have n7 := Nat.lt_of_lt_of_le n6 k7.size
  have n7k := Nat.lt_of_lt_of_le n6k k7.size
  have EQ := Lib.hid (fun W => eqSame W sab)
  have KS := Lib.hid (ksum_any w7 _ sab R7.out BAB.out (HT.out.kept K7.out (fun _ _ h => h)) (by omega))
  clear rd7 k7 H6 H6k K6 n6 n6k CAB
  have R1 := Lib.hid r1; have R2 := Lib.hid r2
  clear r1 r2
  generalize digS sab = d1 at *
  go_wp2_with (first | (at_builtin; refine wpList_append_run (by rfl) _ _ _ _ rfl _ _ rfl rfl R1.out ?_) | (at_builtin; refine wpList_append_run (by rfl) _ _ _ _ rfl _ _ rfl rfl R2.out ?_))
  refine KS.out.mono ?_
  rintro e w8 ⟨rfl, k8⟩
  have H8 := Lib.hid (H7.out.kept k8 n7 (fun h => h))
  have H8k := Lib.hid (H7k.out.kept k8 n7k (fun h => h))
  have K8 := Lib.hid (K7.out.then k8)
  have n8 := Nat.lt_of_lt_of_le n7 k8.size
  have n8k := Nat.lt_of_lt_of_le n7k k8.size
  have he := EQ.out w8
  clear R1 R2 KS R7 H7 H7k K7 n7 n7k k8
  go_wp2_with fail
  clear he EQ
  refine (hsum_any w8 g2 0 sac H8k.out n8k (HT.out.kept K8.out (fun _ _ h => h)) (by omega)).mono ?_
  rintro e w9 ⟨rfl, k9⟩
  have H9 := Lib.hid (H8.out.kept k9 n8 (fun h => h))
  have H9k := Lib.hid (H8k.out.kept k9 n8k (fun h => h))
  have K9 := Lib.hid (K8.out.then k9)
  have n9 := Nat.lt_of_lt_of_le n8 k9.size
  have n9k := Nat.lt_of_lt_of_le n8k k9.size
  clear k9 H8 H8k K8 n8 n8k
  obtain ⟨p3, q3, v3, p4, q4, w10, r3, r4, rd10, k10⟩ := CAC.out w9 K9.out
  have R10 := Lib.hid rd10
  have H10 := Lib.hid (H9.out.kept k10 n9 (fun h => h))
  have H10k := Lib.hid (H9k.out.kept k10 n9k (fun h => h))
  have K10 := Lib.hid (K9.out.then k10)
  have n10 := Nat.lt_of_lt_of_le n9 k10.size
  have n10k := Nat.lt_of_lt_of_le n9k k10.size
  have EQ := Lib.hid (fun W => eqSame W sac)
  have KS := Lib.hid (ksum_any w10 _ sac R10.out BAC.out (HT.out.kept K10.out (fun _ _ h => h)) (by omega))
  clear rd10 k10 H9 H9k K9 n9 n9k CAC
  have R1 := Lib.hid r3; have R2 := Lib.hid r4
  clear r3 r4
  generalize digS sac = d2 at *
  go_wp2_with (first | (at_builtin; refine wpList_append_run (by rfl) _ _ _ _ rfl _ _ rfl rfl R1.out ?_) | (at_builtin; refine wpList_append_run (by rfl) _ _ _ _ rfl _ _ rfl rfl R2.out ?_))
  refine KS.out.mono ?_
  rintro e w11 ⟨rfl, k11⟩
  have H11 := Lib.hid (H10.out.kept k11 n10 (fun h => h))
  have H11k := Lib.hid (H10k.out.kept k11 n10k (fun h => h))
  have K11 := Lib.hid (K10.out.then k11)
  have he := EQ.out w11
  clear R1 R2 KS R10 H10 H10k K10 n10 n10k k11
  go_wp2_with fail
  clear he EQ
  refine (len_any w11 g 0 sab H11.out).mono ?_
  rintro e w12 ⟨rfl, rfl⟩
  go_wp2_with fail
  refine (len_any w11 g2 0 sac H11k.out).mono ?_
  rintro e w12 ⟨rfl, rfl⟩
  go_wp2_with fail
  go_ret
  exact ⟨rfl, K11.out⟩
end Go.Proofs.YtnjmffmdlaobdabDoor
