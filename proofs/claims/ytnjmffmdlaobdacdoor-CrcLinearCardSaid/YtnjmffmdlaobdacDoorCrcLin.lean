/-
  arbaclaw04.CrcLinear returns true.
-/
import Derived.Test.YtnjmffmdlaobdacDoorCrcL
namespace Go.Proofs.YtnjmffmdlaobdacDoor
open Go.RowKit

theorem xor3_snoc (l m n : List Nat) (a b c : Nat) (h1 : l.length = m.length) (h2 : m.length = n.length) : xor3 (l ++ [a]) (m ++ [b]) (n ++ [c]) = xor3 l m n ++ [a ^^^ b ^^^ c] := by
  induction l generalizing m n with
  | nil =>
    obtain rfl : m = [] := List.eq_nil_of_length_eq_zero (by simp at h1; omega)
    obtain rfl : n = [] := List.eq_nil_of_length_eq_zero (by simp at h2; omega)
    rfl
  | cons x l ih =>
    match m, n, h1, h2 with
    | y :: m, z :: n, h1, h2 =>
      simp only [List.length_cons, Nat.add_right_cancel_iff] at h1 h2
      simp only [List.cons_append, xor3, ih m n h1 h2]
theorem xor3_length (l m n : List Nat) (h1 : l.length = m.length) (h2 : m.length = n.length) : (xor3 l m n).length = l.length := by
  induction l generalizing m n with
  | nil => rfl
  | cons x l ih =>
    match m, n, h1, h2 with
    | y :: m, z :: n, h1, h2 =>
      simp only [List.length_cons, Nat.add_right_cancel_iff] at h1 h2
      simp only [xor3, List.length_cons, ih m n h1 h2]
theorem xor3_byte (l m n : List Nat) (hl : ∀ x ∈ l, x < 256) (hm : ∀ x ∈ m, x < 256) (hn : ∀ x ∈ n, x < 256) : ∀ x ∈ xor3 l m n, x < 256 := by
  induction l generalizing m n with
  | nil => simp [xor3]
  | cons a l ih =>
    match m, n with
    | [], _ => simp [xor3]
    | _ :: _, [] => simp [xor3]
    | b :: m, c :: n =>
      intro x hx
      simp only [xor3, List.mem_cons] at hx
      rcases hx with rfl | hx
      · exact Nat.xor_lt_two_pow (n := 8) (Nat.xor_lt_two_pow (n := 8) (hl a (by simp)) (hm b (by simp))) (hn c (by simp))
      · exact ih m n (fun y hy => hl y (by simp [hy])) (fun y hy => hm y (by simp [hy])) (fun y hy => hn y (by simp [hy])) x hx

theorem run_min4 {P : Program} (w : World) (ts : Array TypeId) (t : TypeId) (x y z u m : Int) (h : m = if u < (if z < (if y < x then y else x) then z else (if y < x then y else x)) then u else (if z < (if y < x then y else x) then z else (if y < x then y else x))) :
    (Builtin.min_ ts t #[.int .i64 x, .int .i64 y, .int .i64 z, .int .i64 u]).run P w = .ok (.int .i64 m) w := by
  subst h
  simp [Builtin.min_, Builtin.min2]

theorem InBytes.cap {w : World} {a : Option Addr} {n c : Nat} {xs : List Nat} (h : Reads w (.slice a n c) xs) : n ≤ c ∧ n = xs.length := by
  rcases h with ⟨h, rfl⟩ | ⟨g, off, cap, h, h1, _⟩
  · cases h; exact ⟨Nat.le_refl _, rfl⟩
  · cases h; exact ⟨h1, rfl⟩

set_option maxRecDepth 100000 in
set_option maxHeartbeats 1600000 in
theorem linear_any (p q r : Value) (xs ys zs : List Nat) (w : World) (hT : Tab w) (hp : InBytes w p xs) (hq : InBytes w q ys) (hr : InBytes w r zs) :
    Calls Tryd.prog 6 #[p, q, r] w fun e w' => e = .returned (.bool true) ∧ Kept (fun _ => False) w w' := by
  obtain ⟨i0, hi, hz0, hz1, hz2⟩ := info_parts info_u8c
  obtain ⟨a, c, hpf⟩ := hp.reads.form
  obtain ⟨a', c', hqf⟩ := hq.reads.form
  obtain ⟨a'', c'', hrf⟩ := hr.reads.form
  have HP := Lib.hid hp; have HQ := Lib.hid hq; have HR := Lib.hid hr; have HT := Lib.hid hT
  clear hp hq hr hT
  subst hpf hqf hrf
  have hc1 := (InBytes.cap HP.out.reads).1; have hc2 := (InBytes.cap HQ.out.reads).1; have hc3 := (InBytes.cap HR.out.reads).1
  obtain ⟨n, hn⟩ : ∃ n, n = min (min (min xs.length ys.length) zs.length) 2000 := ⟨_, rfl⟩
  have n1 : n ≤ xs.length := by omega
  have n2 : n ≤ ys.length := by omega
  have n3 : n ≤ zs.length := by omega
  have n4 : n ≤ 2000 := by omega
  have hmin := fun (W : World) => run_min4 (P := Tryd.prog) W #[3, 3, 3, 3] 3 xs.length ys.length zs.length 2000 n (by split <;> (try split) <;> (try split) <;> omega)
  clear hn
  have lx : ∀ k, k ≤ n → (xs.take k).length = k := fun k hk => by simp; omega
  have ly : ∀ k, k ≤ n → (ys.take k).length = k := fun k hk => by simp; omega
  have lz : ∀ k, k ≤ n → (zs.take k).length = k := fun k hk => by simp; omega
  have HLX := Lib.hid lx; have HLY := Lib.hid ly; have HLZ := Lib.hid lz
  clear lx ly lz
  go_enter Tryd.func6, Tryd.ntmps6
  go_wp2_with fail
  refine (awake4_any w HT.out).mono ?_
  rintro e w0 ⟨rfl, hk0⟩
  have rp := HP.out.reads.kept hk0 (fun _ _ h => h)
  have rq := HQ.out.reads.kept hk0 (fun _ _ h => h)
  have rr := HR.out.reads.kept hk0 (fun _ _ h => h)
  have RP := Lib.hid rp; have RQ := Lib.hid rq; have RR := Lib.hid rr
  have tp := rp.lt; have tq := rq.lt; have tr := rr.lt
  have TP := Lib.hid tp; have TQ := Lib.hid tq; have TR := Lib.hid tr
  clear rp rq rr tp tq tr
  go_wp2_with fail
  clear hmin
  go_loopw [8, 20] (fun vv i wr => ∃ k : Nat, k ≤ n ∧ i = .int .i64 k ∧ Fresh wr w0.heap.size vv (xor3 (xs.take k) (ys.take k) (zs.take k)) ∧ Kept (fun _ => False) w0 wr) (fun _ i _ => n - (intOf i).toNat)
  case atStart => exact ⟨0, Nat.zero_le _, rfl, ⟨World.ownsRow_nil _ _ _ _, by intro k hk; simp [Value.ownBlock] at hk⟩, Kept.refl _ _⟩
  case round =>
    obtain ⟨k, hk, rfl, hf, hkr⟩ := hrel
    have hxl : (xor3 (xs.take k) (ys.take k) (zs.take k)).length = k := by rw [xor3_length _ _ _ (by rw [HLX.out k hk, HLY.out k hk]) (by rw [HLY.out k hk, HLZ.out k hk]), HLX.out k hk]
    have hlt0 := hkr.size
    by_cases hlt : k < n
    · obtain ⟨g1, o1, rfl, _, e1⟩ := RP.out.at (k := k) (by omega)
      obtain ⟨g2, o2, rfl, _, e2⟩ := RQ.out.at (k := k) (by omega)
      obtain ⟨g3, o3, rfl, _, e3⟩ := RR.out.at (k := k) (by omega)
      have f1 := (hkr.cell (p := ⟨g1, o1 + k, none⟩) (TP.out g1 rfl) (fun h => h)).trans e1
      have f2 := (hkr.cell (p := ⟨g2, o2 + k, none⟩) (TQ.out g2 rfl) (fun h => h)).trans e2
      have f3 := (hkr.cell (p := ⟨g3, o3 + k, none⟩) (TR.out g3 rfl) (fun h => h)).trans e3
      clear e1 e2 e3
      have b1 := getD8 HP.out.byte k; have b2 := getD8 HQ.out.byte k; have b3 := getD8 HR.out.byte k
      have hsn : xor3 (xs.take (k + 1)) (ys.take (k + 1)) (zs.take (k + 1)) = xor3 (xs.take k) (ys.take k) (zs.take k) ++ [xs.getD k 0 ^^^ ys.getD k 0 ^^^ zs.getD k 0] := by
        rw [take_snoc xs k (by omega), take_snoc ys k (by omega), take_snoc zs k (by omega), xor3_snoc _ _ _ _ _ _ (by rw [HLX.out k hk, HLY.out k hk]) (by rw [HLY.out k hk, HLZ.out k hk])]
      have HSN := Lib.hid hsn; clear hsn
      generalize xs.getD k 0 = x at *
      generalize ys.getD k 0 = y at *
      generalize zs.getD k 0 = z at *
      obtain ⟨xy, hxy⟩ : ∃ v, v = x ^^^ y := ⟨_, rfl⟩
      have hxyl : xy < 256 := by rw [hxy]; exact Nat.xor_lt_two_pow (n := 8) b1 b2
      obtain ⟨v, hv⟩ : ∃ v, v = xy ^^^ z := ⟨_, rfl⟩
      have x1 : bits .xor .u8 (x : Int) (y : Int) = (xy : Int) := by rw [u8_xor_nat _ _ b1 b2, hxy]
      have x2 : bits .xor .u8 (xy : Int) (z : Int) = (v : Int) := by rw [u8_xor_nat _ _ hxyl b3, hv]
      rw [← hxy, ← hv] at HSN
      clear hxy hv
      have hown := hf.own
      rw [hxl] at hown
      have HO := Lib.hid hown; clear hown
      have hkI : (k : Int) < n := by omega
      have k1 : (k : Int) < xs.length := by omega
      have k2 : (k : Int) < ys.length := by omega
      have k3 : (k : Int) < zs.length := by omega
      have hm1 : k + 1 ≤ maxLen := by unfold maxLen; omega
      have hm2 : (k + 1) * 1 ≤ 140737488355328 := by omega
      have HXL := Lib.hid hxl; clear hxl
      have HF := Lib.hid hf; clear hf
      go_wp2_with fail
      go_region_law (
        ((refine step_append_lies _ (by rfl) _ _ _ (by rfl) w0.heap.size 5 i0 _ 1 1 Tryd.underlying27 hi hz0 hz1 hz2 rfl (by omega) _ _ _ (by rfl) ((HO.out.alloc _).drew)
              ⟨wr.heap.size, 0, none⟩ 1 1 [.int .u8 v] (by rfl) (by rfl) (World.news_of_block (cs := #[.int .u8 v]) (t := 5) (fr := (0, 0)) (heap_alloc_new wr _)) (by simp [Value.oneCell'])
              (by omega) hm1 hm2 (by simp; omega) (wr.heap.size + 1) (by simp) ?_; intro gg cap w1 hown1 hgrow hat hgl)))
      all_goals
        have hk1 : Kept (fun _ => False) w0 w1 := ((hkr.then (Kept.alloc (fun _ => False) wr (.cells #[.int .u8 v] 5))).drew).trans (Kept.ofGrown (S := blk u8) hgrow fun k e => e) (fun _ _ h => h) (fun i hi hb => by have := HF.out.block i hb; omega)
        have hf1 : Fresh w1 w0.heap.size (.slice (some ⟨gg, 0, none⟩) (k + 1) cap) (xor3 (xs.take (k + 1)) (ys.take (k + 1)) (zs.take (k + 1))) := by
          rw [HSN.out]
          exact ⟨by rw [List.length_append, HXL.out, bv_append]; exact hown1, fun k hk => (hown1.lt k hk).1⟩
        have HF1 := Lib.hid hf1
        clear hf1 hown1 hgrow hat
        go_wp2
        go_roundw
        case rel => exact ⟨k + 1, by omega, by go_num, HF1.out, hk1⟩
        case measure => simp [intOf]; omega
    · obtain rfl : k = n := by omega
      have b1 : ∀ x ∈ xs.take k, x < 256 := fun x hx => HP.out.byte x (List.mem_of_mem_take hx)
      have b2 : ∀ x ∈ ys.take k, x < 256 := fun x hx => HQ.out.byte x (List.mem_of_mem_take hx)
      have b3 : ∀ x ∈ zs.take k, x < 256 := fun x hx => HR.out.byte x (List.mem_of_mem_take hx)
      have bx := xor3_byte _ _ _ b1 b2 b3
      have hlin := crc_lin (xs.take k) (ys.take k) (zs.take k) (by rw [HLX.out k hk, HLY.out k hk]) (by rw [HLY.out k hk, HLZ.out k hk])
      have r1 := (RP.out.takeV k n1).kept hkr (fun _ _ h => h)
      have r2 := (RQ.out.takeV k n2).kept hkr (fun _ _ h => h)
      have r3 := (RR.out.takeV k n3).kept hkr (fun _ _ h => h)
      have hT := (HT.out.kept hk0 (fun h => h)).kept hkr (fun h => h)
      have r0 := hf.reads
      obtain ⟨a0, c0, hv0⟩ := r0.form
      rw [hxl] at hv0
      subst hv0
      have s1 : crcS (xs.take k) < 2 ^ 32 := crcU_lt (by omega) b1
      have s2 : crcS (ys.take k) < 2 ^ 32 := crcU_lt (by omega) b2
      have s3 : crcS (zs.take k) < 2 ^ 32 := crcU_lt (by omega) b3
      have C0 := fun (j : Nat) => sum_any _ _ (wr.drewN j) (r0.kept ((Kept.refl _ _).drewN j) (fun _ _ h => h)) bx (hT.kept ((Kept.refl (fun _ => False) _).drewN j) (fun h => h))
      have C1 := fun (j : Nat) => sum_any _ _ (wr.drewN j) (r1.kept ((Kept.refl _ _).drewN j) (fun _ _ h => h)) b1 (hT.kept ((Kept.refl (fun _ => False) _).drewN j) (fun h => h))
      have C2 := fun (j : Nat) => sum_any _ _ (wr.drewN j) (r2.kept ((Kept.refl _ _).drewN j) (fun _ _ h => h)) b2 (hT.kept ((Kept.refl (fun _ => False) _).drewN j) (fun h => h))
      have C3 := fun (j : Nat) => sum_any _ _ (wr.drewN j) (r3.kept ((Kept.refl _ _).drewN j) (fun _ _ h => h)) b3 (hT.kept ((Kept.refl (fun _ => False) _).drewN j) (fun h => h))
      rw [hlin] at C0
      generalize crcS (xs.take k) = m1 at *
      generalize crcS (ys.take k) = m2 at *
      generalize crcS (zs.take k) = m3 at *
      obtain ⟨m12, h12⟩ : ∃ m, m = m1 ^^^ m2 := ⟨_, rfl⟩
      have l12 : m12 < 2 ^ 32 := by rw [h12]; exact Nat.xor_lt_two_pow s1 s2
      obtain ⟨m, hm⟩ : ∃ m, m = m12 ^^^ m3 := ⟨_, rfl⟩
      have x1 := xor32 m1 m2 m12 s1 s2 h12
      have x2 := xor32 m12 m3 m l12 s3 hm
      rw [← h12, ← hm] at C0
      clear h12 hm hlin r1 r2 r3 r0 hT
      have H0 := Lib.hid C0; have H1 := Lib.hid C1; have H2 := Lib.hid C2; have H3 := Lib.hid C3
      clear C0 C1 C2 C3 bx b1 b2 b3
      have hkw := hk0.then hkr
      have HKW := Lib.hid hkw
      clear hf hkr hkw hxl hk0
      have kc1 : k ≤ c := by omega
      have kc2 : k ≤ c' := by omega
      have kc3 : k ≤ c'' := by omega
      have kc1' : (k : Int) ≤ c := by omega
      have kc2' : (k : Int) ≤ c' := by omega
      have kc3' : (k : Int) ≤ c'' := by omega
      go_wp2_with fail
      go_quiet ((first | (go_at_call 15; with_reducible exact quiet_left (H0.out _)) | (go_at_call 15; with_reducible exact quiet_left (H1.out _)) | (go_at_call 15; with_reducible exact quiet_left (H2.out _)) | (go_at_call 15; with_reducible exact quiet_left (H3.out _))))
      go_wp2_with fail
      go_ret
      exact ⟨rfl, HKW.out.drewN _⟩
end Go.Proofs.YtnjmffmdlaobdacDoor
