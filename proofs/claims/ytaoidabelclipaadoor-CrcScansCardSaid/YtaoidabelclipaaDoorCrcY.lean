/-
  The reference of crc: Next, Scan.
-/
import Derived.Test.YtaoidabelclipaaDoorRowsL
namespace Go.Proofs.YtaoidabelclipaaDoor
open Go.RowKit

theorem ends_int {k : IntKind} {a b : Int} (h : a = b) : Ending.returned (.int k a) = .returned (.int k b) := by rw [h]

set_option maxRecDepth 100000 in
set_option maxHeartbeats 400000 in
theorem rnext_short (p : Value) (xs : List Nat) (w : World) (hp : Reads w p xs) (hl : xs.length < 8) :
    Calls Tryd.prog 71 #[p] w fun e w' => e = .returned (.int .i64 (nextS xs : Nat)) ∧ Kept (fun _ => False) w w' := by
  obtain ⟨a, c, rfl⟩ := hp.form
  clear hp
  have hn : nextS xs = 0 := by unfold nextS; rw [if_pos hl]
  have HN := Lib.hid hn; clear hn
  have hl' : (xs.length : Int) < 8 := by omega
  go_enter Tryd.func71, Tryd.ntmps71
  go_wp2_with fail
  go_ret
  exact ⟨ends_int (by rw [HN.out]; rfl), Kept.refl _ _⟩

set_option maxRecDepth 100000 in
set_option maxHeartbeats 3200000 in
theorem rnext_long (xs : List Nat) (w : World) (g off n cap o2 c8 : Nat) (hr : Reads w (.slice (some ⟨g, off, none⟩) n cap) xs) (hb : ∀ x ∈ xs, x < 256) (hn : n = xs.length) (h8 : 8 ≤ n) (hcap : n ≤ cap)
    (hr8 : ∀ m, m + 8 ≤ n → Reads w (.slice (some ⟨g, o2, none⟩) m c8) ((xs.drop 8).take m)) (hsl : (cap = 8 ∧ o2 = off ∧ c8 = 0) ∨ (cap ≠ 8 ∧ o2 = off + 8 ∧ c8 = cap - 8)) :
    Calls Tryd.prog 71 #[.slice (some ⟨g, off, none⟩) n cap] w fun e w' => e = .returned (.int .i64 (nextS xs : Nat)) ∧ Kept (fun _ => False) w w' := by
  have hm := hr.le
  unfold maxLen at hm
  have hat := fun (k : Nat) (hk : k < xs.length) => hr.at (k := k) hk
  have hcell : ∀ k, k < n → w.cell? ⟨g, off + k, none⟩ = some (.int .u8 (xs.getD k 0 : Nat)) := fun k hk => by
    obtain ⟨_, _, e, _, h⟩ := hat k (by omega); cases e; exact h
  have hglt := hr.lt g rfl
  have c0 := hcell 0 (by omega); have c1 := hcell 1 (by omega); have c2 := hcell 2 (by omega); have c3 := hcell 3 (by omega)
  rw [Nat.add_zero] at c0
  have b0 := getD8 hb 0; have b1 := getD8 hb 1; have b2 := getD8 hb 2; have b3 := getD8 hb 3
  have hde : de4 xs = xs.getD 0 0 + 256 * xs.getD 1 0 + 65536 * xs.getD 2 0 + 16777216 * xs.getD 3 0 := rfl
  obtain ⟨d, hd⟩ : ∃ d, d = de4 xs := ⟨_, rfl⟩
  rw [← hd] at hde
  have HCELL := Lib.hid hcell; have HD := Lib.hid hd; have HB := Lib.hid hb; have HN := Lib.hid hn; have HR8 := Lib.hid hr8
  clear hcell hd hb hn hr8 hat hr
  generalize xs.getD 0 0 = x0 at *
  generalize xs.getD 1 0 = x1 at *
  generalize xs.getD 2 0 = x2 at *
  generalize xs.getD 3 0 = x3 at *
  obtain ⟨z1, hz1⟩ : ∃ z, z = 256 * x1 := ⟨_, rfl⟩
  obtain ⟨z2, hz2⟩ : ∃ z, z = 65536 * x2 := ⟨_, rfl⟩
  obtain ⟨z3, hz3⟩ : ∃ z, z = 16777216 * x3 := ⟨_, rfl⟩
  obtain ⟨y1, hy1⟩ : ∃ z, z = x0 + z1 := ⟨_, rfl⟩
  obtain ⟨y2, hy2⟩ : ∃ z, z = y1 + z2 := ⟨_, rfl⟩
  have v0 : IntKind.i64.wrap (x0 : Int) = (x0 : Int) := IntWalk.i64_in _ (by omega)
  have v1 : IntKind.i64.wrap (x1 : Int) = (x1 : Int) := IntWalk.i64_in _ (by omega)
  have v2 : IntKind.i64.wrap (x2 : Int) = (x2 : Int) := IntWalk.i64_in _ (by omega)
  have v3 : IntKind.i64.wrap (x3 : Int) = (x3 : Int) := IntWalk.i64_in _ (by omega)
  have m1 : IntKind.i64.wrap (256 * (x1 : Int)) = (z1 : Int) := by rw [IntWalk.i64_in _ (by omega)]; omega
  have m2 : IntKind.i64.wrap (65536 * (x2 : Int)) = (z2 : Int) := by rw [IntWalk.i64_in _ (by omega)]; omega
  have m3 : IntKind.i64.wrap (16777216 * (x3 : Int)) = (z3 : Int) := by rw [IntWalk.i64_in _ (by omega)]; omega
  have s1 : IntKind.i64.wrap ((x0 : Int) + (z1 : Int)) = (y1 : Int) := by rw [IntWalk.i64_in _ (by omega)]; omega
  have s2 : IntKind.i64.wrap ((y1 : Int) + (z2 : Int)) = (y2 : Int) := by rw [IntWalk.i64_in _ (by omega)]; omega
  have s3 : IntKind.i64.wrap ((y2 : Int) + (z3 : Int)) = (d : Int) := by rw [IntWalk.i64_in _ (by omega)]; omega
  have hdl : d < 2 ^ 32 := by omega
  have l0 : (0 : Int) < n := by omega
  have l1 : (1 : Int) < n := by omega
  have l2 : (2 : Int) < n := by omega
  have l3 : (3 : Int) < n := by omega
  have l8 : ¬ (n : Int) < 8 := by omega
  clear hz1 hz2 hz3 hy1 hy2 hde
  go_enter Tryd.func71, Tryd.ntmps71
  go_wp2_with fail
  go_quiet (fail)
  clear v0 v1 v2 v3 m1 m2 m3 s1 s2 s3 c0 c1 c2 c3
  have hk1 : Kept (fun _ => False) w (w.drewN nq) := (Kept.refl _ _).drewN _
  generalize w.drewN nq = w1 at hk1 ⊢
  by_cases h1 : 9000 < d
  · have hz : nextS xs = 0 := nextS_great (by rw [← HD.out]; exact h1)
    have HZ := Lib.hid hz; clear hz
    have h1' : (9000 : Int) < d := by omega
    go_wp2_with fail
    go_ret
    exact ⟨ends_int (by rw [HZ.out]; rfl), hk1⟩
  · have h1' : ¬ (9000 : Int) < d := by omega
    by_cases h2 : n < 8 + d
    · have hz : nextS xs = 0 := nextS_long (by rw [← HD.out, ← HN.out]; exact h2)
      have HZ := Lib.hid hz; clear hz
      have h2' : (n : Int) < 8 + (d : Int) := by omega
      go_wp2_with fail
      go_ret
      exact ⟨ends_int (by rw [HZ.out]; rfl), hk1⟩
    · have h2' : ¬ (n : Int) < 8 + (d : Int) := by omega
      have hnx := nextS_ref HB.out (by rw [← HN.out]; exact h8) (by rw [← HD.out]; omega) (by rw [← HD.out, ← HN.out]; omega)
      rw [← HD.out] at hnx
      have hq := (HR8.out d (by omega)).kept hk1 (fun _ _ h => h)
      have hqb : ∀ x ∈ (xs.drop 8).take d, x < 256 := fun x hx => HB.out x (List.mem_of_mem_drop (List.mem_of_mem_take hx))
      have hql : ((xs.drop 8).take d).length = d := by rw [List.length_take, List.length_drop, ← HN.out]; omega
      generalize (xs.drop 8).take d = q at hnx hq hqb hql
      have hfl := frameS_length q
      rw [hql] at hfl
      have HNX := Lib.hid hnx; have HQ := Lib.hid hq; have HQB := Lib.hid hqb; have HQL := Lib.hid hql; have HFL := Lib.hid hfl
      have p1 : (8 : Int) + d ≤ cap := by omega
      have p2 : (8 : Int) ≤ cap := by omega
      have p3 : 8 + d ≤ cap := by omega
      have hdi : (0 : Int) ≤ d := by omega
      clear hnx hq hqb hql hfl
      rcases hsl with ⟨rfl, rfl, rfl⟩ | ⟨hc8, rfl, rfl⟩
      · obtain rfl : d = 0 := by omega
        obtain rfl : n = 8 := by omega
        go_wp2_with fail
        with_reducible refine (rframe_any _ q w1 HQ.out HQB.out (by rw [HQL.out]; omega)).mono ?_
        rintro e w2 ⟨v2, rfl, hf2, hk2⟩
        have hk02 := hk1.then hk2
        have hrd2 := hf2.reads
        generalize hfs : frameS q = fs at hrd2
        have hlen : fs.length = 8 := by rw [← hfs, HFL.out]
        obtain ⟨a2, c2, hv2⟩ := hrd2.form
        rw [hlen] at hv2
        have HFS := Lib.hid hfs; have HRD := Lib.hid hrd2; have HLEN := Lib.hid hlen; have HK := Lib.hid hk02
        clear hf2 hk2 hrd2 hfs hlen hk02
        subst hv2
        go_wp2_with fail
        go_loop [48] (fun iv => ∃ k : Nat, k ≤ 8 ∧ iv = .int .i64 k ∧ Hid (fs.take k = xs.take k)) (fun iv => 8 - (intOf iv).toNat)
        case atStart => exact ⟨0, Nat.zero_le _, rfl, Lib.hid rfl⟩
        case round =>
          obtain ⟨k, hk, rfl, ht⟩ := hrel
          by_cases hlt : k < 8
          · have hlt' : (k : Int) < 8 := by omega
            have hk0 : (0 : Int) ≤ (k : Int) := by omega
            obtain ⟨g2, off2, rfl, _, hc⟩ := HRD.out.at (k := k) (by rw [HLEN.out]; exact hlt)
            have hc' := (HK.out.cell (p := ⟨g, o2 + k, none⟩) hglt (fun h => h)).trans (HCELL.out k hlt)
            obtain ⟨x, hx⟩ : ∃ x, x = fs.getD k 0 := ⟨_, rfl⟩
            obtain ⟨y, hy⟩ : ∃ y, y = xs.getD k 0 := ⟨_, rfl⟩
            rw [← hx] at hc
            rw [← hy] at hc'
            have HX := Lib.hid hx; have HY := Lib.hid hy; clear hx hy
            by_cases hxy : x = y
            · subst hxy
              go_wp2_with fail
              go_round
              case rel => exact ⟨k + 1, by omega, by go_num, Lib.hid (take_eq_succ8 ht.out (by rw [HLEN.out]; exact hlt) (by rw [← HN.out]; exact hlt) (by rw [← HX.out, ← HY.out]))⟩
              case measure => simp [intOf]; omega
            · have hbq : ((y : Int) != (x : Int)) = true := by simp; omega
              have hbq2 : ((y : Int) == (x : Int)) = false := by simp; omega
              go_wp2_with fail
              go_ret
              refine ⟨ends_int ?_, HK.out⟩
              rw [HNX.out, if_neg]
              · rfl
              · rw [HFS.out]
                intro e
                apply hxy
                rw [HX.out, HY.out, e]
                simp [List.getD, hlt]
          · obtain rfl : k = 8 := by omega
            go_wp2_with fail
            go_ret
            refine ⟨ends_int ?_, HK.out⟩
            rw [HNX.out, if_pos]
            · rfl
            · have h := ht.out
              rw [List.take_of_length_le (by rw [HLEN.out]; exact Nat.le_refl _)] at h
              rw [HFS.out, h]
      · obtain ⟨L, hL⟩ : ∃ L, L = 8 + d := ⟨_, rfl⟩
        have HL := Lib.hid hL; clear hL
        go_wp2_with fail
        with_reducible refine (rframe_any _ q w1 HQ.out HQB.out (by rw [HQL.out]; omega)).mono ?_
        rintro e w2 ⟨v2, rfl, hf2, hk2⟩
        have hk02 := hk1.then hk2
        have hrd2 := hf2.reads
        generalize hfs : frameS q = fs at hrd2
        have hlen : fs.length = L := by rw [← hfs, HFL.out, HL.out]
        obtain ⟨a2, c2, hv2⟩ := hrd2.form
        rw [hlen] at hv2
        have HFS := Lib.hid hfs; have HRD := Lib.hid hrd2; have HLEN := Lib.hid hlen; have HK := Lib.hid hk02
        have hLn : L ≤ n := by rw [HL.out]; omega
        have hL9 : L ≤ 9008 := by rw [HL.out]; omega
        clear hf2 hk2 hrd2 hfs hlen hk02
        subst hv2
        go_wp2_with fail
        go_loop [48] (fun iv => ∃ k : Nat, k ≤ L ∧ iv = .int .i64 k ∧ Hid (fs.take k = xs.take k)) (fun iv => L - (intOf iv).toNat)
        case atStart => exact ⟨0, Nat.zero_le _, rfl, Lib.hid rfl⟩
        case round =>
          obtain ⟨k, hk, rfl, ht⟩ := hrel
          by_cases hlt : k < L
          · have hlt' : (k : Int) < L := by omega
            have hlt'' : (k : Int) < n := by omega
            have hk0 : (0 : Int) ≤ (k : Int) := by omega
            obtain ⟨g2, off2, rfl, _, hc⟩ := HRD.out.at (k := k) (by rw [HLEN.out]; exact hlt)
            have hc' := (HK.out.cell (p := ⟨g, off + k, none⟩) hglt (fun h => h)).trans (HCELL.out k (by omega))
            obtain ⟨x, hx⟩ : ∃ x, x = fs.getD k 0 := ⟨_, rfl⟩
            obtain ⟨y, hy⟩ : ∃ y, y = xs.getD k 0 := ⟨_, rfl⟩
            rw [← hx] at hc
            rw [← hy] at hc'
            have HX := Lib.hid hx; have HY := Lib.hid hy; clear hx hy
            by_cases hxy : x = y
            · subst hxy
              go_wp2_with fail
              go_round
              case rel => exact ⟨k + 1, by omega, by go_num, Lib.hid (take_eq_succ8 ht.out (by rw [HLEN.out]; exact hlt) (by rw [← HN.out]; omega) (by rw [← HX.out, ← HY.out]))⟩
              case measure => simp [intOf]; omega
            · have hbq : ((y : Int) != (x : Int)) = true := by simp; omega
              have hbq2 : ((y : Int) == (x : Int)) = false := by simp; omega
              go_wp2_with fail
              go_ret
              refine ⟨ends_int ?_, HK.out⟩
              rw [HNX.out, if_neg]
              · rfl
              · rw [HFS.out, ← HL.out]
                intro e
                apply hxy
                rw [HX.out, HY.out, e]
                simp [List.getD, hlt]
          · obtain rfl : k = L := by omega
            go_wp2_with fail
            go_ret
            refine ⟨ends_int ?_, HK.out⟩
            rw [HNX.out, if_pos]
            · omega
            · have h := ht.out
              rw [List.take_of_length_le (by rw [HLEN.out]; exact Nat.le_refl _)] at h
              rw [HFS.out, h, ← HL.out]

theorem rnext_any (p : Value) (xs : List Nat) (w : World) (hp : Reads w p xs) (hb : ∀ x ∈ xs, x < 256) :
    Calls Tryd.prog 71 #[p] w fun e w' => e = .returned (.int .i64 (nextS xs : Nat)) ∧ Kept (fun _ => False) w w' := by
  by_cases hl : xs.length < 8
  · exact rnext_short p xs w hp hl
  · have hp0 := hp
    rcases hp with ⟨rfl, rfl⟩ | ⟨g, off, cap, rfl, h1, h2, h3, h4⟩
    · simp at hl
    · have r8 : ∀ o2 c8, Reads w (.slice (some ⟨g, o2, none⟩) (xs.length - 8) c8) (xs.drop 8) → ∀ m, m + 8 ≤ xs.length → Reads w (.slice (some ⟨g, o2, none⟩) m c8) ((xs.drop 8).take m) := fun o2 c8 h m hm => by
        rw [show xs.length - 8 = (xs.drop 8).length by simp] at h
        exact h.takeV m (by simp; omega)
      obtain ⟨q1, q2, _⟩ := hp0.behind (k := 8) (by omega)
      by_cases h8 : cap = 8
      · obtain ⟨e1, e2⟩ := q1 h8.symm
        exact rnext_long xs w g off _ cap off 0 hp0 hb rfl (by omega) h1 (r8 _ _ (by rw [e1]; exact e2)) (Or.inl ⟨h8, rfl, rfl⟩)
      · obtain ⟨g', off', e, e2⟩ := q2 (fun h => h8 h.symm)
        cases e
        exact rnext_long xs w g off _ cap (off + 8) (cap - 8) hp0 hb rfl (by omega) h1 (r8 _ _ e2) (Or.inr ⟨h8, rfl, rfl⟩)

def lenOf : Value → Nat
  | .slice _ n _ => n
  | _ => 0

/-- What the reference's Scan keeps. -/
structure RScanInv (w wr : World) (xs : List Nat) (bv ov : Value) (k : Nat) (ms : List Nat) : Prop where
  reads : Reads wr bv (xs.drop k)
  low : ∀ j, bv.ownBlock = some j → j < w.heap.size
  out : IntsO wr w.heap.size ov (ms.map fun n : Nat => (n : Int))
  lens : lens xs = ms ++ lens (xs.drop k)
  le : k ≤ xs.length
  few : ms.length * 8 ≤ k
  kept : Kept (fun _ => False) w wr

set_option maxRecDepth 100000 in
set_option maxHeartbeats 1600000 in
theorem rscan_any (p : Value) (xs : List Nat) (w : World) (hp : Reads w p xs) (hb : ∀ x ∈ xs, x < 256) (hlen : xs.length ≤ 100000) :
    Calls Tryd.prog 42 #[p] w fun e w' => ∃ v', e = .returned v' ∧ IntsO w' w.heap.size v' ((lens xs).map fun n : Nat => (n : Int)) ∧ Kept (fun _ => False) w w' := by
  obtain ⟨i0, hi, hz0, hz1, hz2⟩ := info_parts info_int
  obtain ⟨a, c, hpf⟩ := hp.form
  have hplt := hp.lt
  have hdb : ∀ k, ∀ x ∈ xs.drop k, x < 256 := fun k x hx => hb x (List.mem_of_mem_drop hx)
  have HS : Hid (RScanInv w w xs p (.slice none 0 0) 0 []) := Lib.hid ⟨by rw [List.drop_zero]; exact hp, hplt, IntsO.nil _ _, by simp, by omega, by simp, Kept.refl _ _⟩
  have HB := Lib.hid hdb
  clear hp hb hdb hplt
  subst hpf
  go_enter Tryd.func42, Tryd.ntmps42
  go_wp2_with fail
  go_loopw [0, 3] (fun bv ov wr => ∃ k ms, Hid (RScanInv w wr xs bv ov k ms)) (fun bv _ _ => lenOf bv)
  case atStart => exact ⟨0, [], HS⟩
  case round =>
    obtain ⟨k, ms, hinv⟩ := hrel
    have hrd := hinv.out.reads
    have hlow := hinv.out.low
    have hout := hinv.out.out
    have hll := hinv.out.lens
    have hkl := hinv.out.le
    have hfew := hinv.out.few
    have hkw := hinv.out.kept
    obtain ⟨a, c, hf⟩ := hrd.form
    have hld : (xs.drop k).length = xs.length - k := by simp
    have hnext := nextS_le (xs.drop k)
    obtain ⟨l, hl⟩ : ∃ l, l = (xs.drop k).length := ⟨_, rfl⟩
    rw [← hl] at hf hnext
    have hl100 : l ≤ 100000 := by omega
    subst hf
    have hlc : l ≤ c := by
      have := hrd
      rw [hl] at this
      have := (this.behind (Nat.zero_le _)).2.2
      omega
    have HRD := Lib.hid hrd; have HLOW := Lib.hid hlow; have HOUT := Lib.hid hout; have HLL := Lib.hid hll; have HKL := Lib.hid hkl; have HFEW := Lib.hid hfew; have HKW := Lib.hid hkw; have HL := Lib.hid hl; have HLD := Lib.hid hld
    have hsz := hkw.size
    clear hrd hlow hout hll hkl hkw hl hld hinv HS
    go_wp2_with fail
    refine (rnext_any _ (xs.drop k) wr HRD.out (HB.out k)).mono ?_
    rintro e w2 ⟨rfl, hk2⟩
    by_cases hm0 : nextS (xs.drop k) = 0
    · have hfin : Hid (lens xs = ms) := by rw [HLL.out, lens_none hm0, List.append_nil]; exact Lib.hid rfl
      rw [hm0]
      have HO2 := Lib.hid (HOUT.out.kept hk2 (fun _ _ h => h))
      have HK2 := Lib.hid (HKW.out.then hk2)
      clear hm0 hk2
      go_wp2_with fail
      go_ret
      exact ⟨_, rfl, by rw [hfin.out]; exact HO2.out, HK2.out⟩
    · have h8 := (nextS_8 _ hm0).1
      have hls : lens xs = (ms ++ [nextS (xs.drop k)]) ++ lens (xs.drop (k + nextS (xs.drop k))) := by
        rw [HLL.out, lens_some hm0, List.drop_drop, List.append_assoc]; rfl
      have HLS := Lib.hid hls
      clear hls hm0
      generalize nextS (xs.drop k) = m at *
      have hm0' : ((m : Int) == 0) = false := by simp; omega
      have HK2 := Lib.hid hk2
      have hs2 := hk2.size
      have hout2 := HOUT.out.kept hk2 (fun _ _ h => h)
      have hob : ∀ j, u3.ownBlock = some j → w.heap.size ≤ j := fun j hj => (hout2.lt j hj).1
      have hou : w2.ownsRow w.heap.size 3 1 u3 ms.length (ms.map fun n : Nat => Value.int .i64 (n : Int)) := by
        have h := hout2
        unfold IntsO at h
        rwa [List.length_map, List.map_map] at h
      have HOU := Lib.hid hou; have HOB := Lib.hid hob
      have hm1 : ms.length + 1 ≤ maxLen := by have := HFEW.out; have := HKL.out; unfold maxLen; omega
      have hm2 : (ms.length + 1) * 8 ≤ 140737488355328 := by have := HFEW.out; have := HKL.out; omega
      have hml1 : (m : Int) ≤ l := by omega
      have hml2 : (m : Int) ≤ c := by omega
      have hml3 : m ≤ c := by omega
      have hrd2 := HRD.out.kept hk2 (fun _ _ h => h)
      rw [HL.out] at hrd2
      have HRD2 := Lib.hid hrd2
      clear hk2 hout2 hob hou hrd2 hfew
      have hbeh := HRD2.out.behind (k := m) (by rw [← HL.out]; omega)
      have fin : ∀ (nb ov' : Value) (w3 : World), Reads w2 nb ((xs.drop k).drop m) → (∀ j, nb.ownBlock = some j → j < w.heap.size) → w3.ownsRow w.heap.size 3 1 ov' (ms.length + 1) ((ms.map fun n : Nat => Value.int .i64 (n : Int)) ++ [.int .i64 (m : Int)]) → Kept (blk u3) w2 w3 →
          RScanInv w w3 xs nb ov' (k + m) (ms ++ [m]) := fun nb ov' w3 h1 h2 h3 h4 => by
        refine ⟨?_, h2, ?_, HLS.out, by have := HKL.out; have := HLD.out; have := HL.out; omega, by have := HFEW.out; simp; omega, (HKW.out.then HK2.out).trans h4 (fun _ _ h => h) (fun i hi hb => by have := HOB.out i hb; omega)⟩
        · rw [← List.drop_drop]
          exact h1.kept h4 fun j hj e => by have := h2 j hj; have := HOB.out j e; omega
        · unfold IntsO
          rw [List.length_map, List.length_append, List.map_append, List.map_append, List.map_map]
          exact h3
      have FIN := Lib.hid fin
      obtain ⟨hb1, hb2, _⟩ := hbeh
      clear fin
      by_cases hmc : m = c
      · obtain ⟨e1, e2⟩ := hb1 hmc
        have hlm : l = m := by rw [HL.out, e1]
        have E2 := Lib.hid e2
        clear hb1 hb2 e1 e2
        subst hmc hlm
        go_wp2_with (at_builtin; refine wpList_append_lies _ rfl _ _ _ rfl w.heap.size 3 i0 _ 1 8 Tryd.underlying70 hi hz0 hz1 hz2 rfl (by omega) u3 ms.length _ rfl (HOU.out.alloc _) ⟨w2.heap.size, 0, none⟩ 1 1 [.int .i64 l] rfl rfl (World.news_of_block (cs := #[.int .i64 l]) (t := 3) (fr := (0, 0)) (heap_alloc_new w2 _)) (by simp [Value.oneCell']) (by omega) hm1 hm2 (by simp; omega) (w2.heap.size + 1) (by simp) ?_)
        intro gg cap w3 hown3 hgrow hat hgl
        have kp : Kept (blk u3) w2 w3 := (Kept.alloc (fun _ => False) w2 _).trans (Kept.ofGrown (S := blk u3) hgrow fun k e => e) (fun _ _ h => h.elim) (fun _ _ h => h)
        have HF := Lib.hid (FIN.out (.slice a 0 0) _ w3 E2.out (fun j hj => HLOW.out j (by cases a <;> first | (simp [Value.ownBlock] at hj; done) | simpa [Value.ownBlock] using hj)) hown3 kp)
        clear hown3 hgrow hat hgl kp
        go_wp2_with fail
        go_roundw
        case rel => exact ⟨_, _, HF⟩
        case measure => simp [lenOf]; omega
      · obtain ⟨g, off, rfl, e2⟩ := hb2 hmc
        have E2 := Lib.hid e2
        rw [← HL.out] at E2
        have hmc' : ¬ c = m := fun e => hmc e.symm
        clear hb1 hb2 e2
        go_wp2_with (at_builtin; refine wpList_append_lies _ rfl _ _ _ rfl w.heap.size 3 i0 _ 1 8 Tryd.underlying70 hi hz0 hz1 hz2 rfl (by omega) u3 ms.length _ rfl (HOU.out.alloc _) ⟨w2.heap.size, 0, none⟩ 1 1 [.int .i64 m] rfl rfl (World.news_of_block (cs := #[.int .i64 m]) (t := 3) (fr := (0, 0)) (heap_alloc_new w2 _)) (by simp [Value.oneCell']) (by omega) hm1 hm2 (by simp; omega) (w2.heap.size + 1) (by simp) ?_)
        intro gg cap w3 hown3 hgrow hat hgl
        have kp : Kept (blk u3) w2 w3 := (Kept.alloc (fun _ => False) w2 _).trans (Kept.ofGrown (S := blk u3) hgrow fun k e => e) (fun _ _ h => h.elim) (fun _ _ h => h)
        have HF := Lib.hid (FIN.out (.slice (some ⟨g, off + m, none⟩) (l - m) (c - m)) _ w3 E2.out (fun j hj => HLOW.out j (by simpa [Value.ownBlock] using hj)) hown3 kp)
        clear hown3 hgrow hat hgl kp
        go_wp2_with fail
        go_roundw
        case rel => exact ⟨_, _, HF⟩
        case measure => simp [lenOf]; omega
end Go.Proofs.YtaoidabelclipaaDoor
