/-
  arbaclaw03.KeccakResets, arbaclaw03.KeccakCopies return true.
-/
import Derived.Test.YtnjmffmdlaobdabDoorKecY
namespace Go.Proofs.YtnjmffmdlaobdabDoor
open Go.RowKit

theorem eqSame (w : World) (xs : List Nat) : (Op.equalIn 10000 25 (.agg (arr8 (digS xs)).toArray) (.agg (arr8 (digS xs)).toArray)).run Tryd.prog w = .ok true w := by
  rw [eq32 w _ _ (digS_length xs) (digS_length xs), decide_eq_true rfl]
theorem short_in {w : World} {a : Option Addr} {xs : List Nat} {c : Nat} (h : InBytes w (.slice a xs.length c) xs) : Reads w (.slice a (xs.take 600).length c) (xs.take 600) := by
  have := h.reads.takeV (Nat.min 600 xs.length) (Nat.min_le_right _ _)
  rw [show xs.take (Nat.min 600 xs.length) = xs.take 600 by
    rcases Nat.lt_or_ge 600 xs.length with h | h
    · rw [show Nat.min 600 xs.length = 600 from Nat.min_eq_left (by omega)]
    · rw [show Nat.min 600 xs.length = xs.length from Nat.min_eq_right h, List.take_length, List.take_of_length_le h]] at this
  rwa [show Nat.min 600 xs.length = (xs.take 600).length by simp] at this
theorem take600 (xs : List Nat) : (xs.take 600).length ≤ 600 := by simp; omega

set_option maxRecDepth 100000 in
set_option maxHeartbeats 1600000 in
theorem resets_any (pa pb : Value) (xa xb : List Nat) (w : World) (hT : KTab w) (ha : InBytes w pa xa) (hb : InBytes w pb xb) :
    Calls Tryd.prog 6 #[pa, pb] w fun e w' => e = .returned (.bool true) ∧ Kept (fun _ => False) w w' := by
  obtain ⟨aa, ca, hfa⟩ := ha.reads.form
  obtain ⟨ab, cb, hfb⟩ := hb.reads.form
  subst hfa hfb
  have HT := Lib.hid hT; have HA := Lib.hid ha; have HB := Lib.hid hb
  have ra := short_in ha; have rb := short_in hb
  have la := take600 xa; have lb := take600 xb
  have ya : ∀ x ∈ xa.take 600, x < 256 := fun x hx => ha.byte x (List.mem_of_mem_take hx)
  have yb : ∀ x ∈ xb.take 600, x < 256 := fun x hx => hb.byte x (List.mem_of_mem_take hx)
  have SA := fun (W : World) (hk : Kept (fun _ => False) w W) => short_any W aa xa ca (ha.reads.kept hk (fun _ _ h => h))
  have SB := fun (W : World) (hk : Kept (fun _ => False) w W) => short_any W ab xb cb (hb.reads.kept hk (fun _ _ h => h))
  have oa := ra.lt; have ob := rb.lt
  generalize xa.take 600 = sa at *
  generalize xb.take 600 = sb at *
  have HRA := Lib.hid ra; have HRB := Lib.hid rb; have HYA := Lib.hid ya; have HYB := Lib.hid yb; have HSA := Lib.hid SA; have HSB := Lib.hid SB; have HOA := Lib.hid oa; have HOB := Lib.hid ob
  clear hT ha hb ra rb ya yb SA SB oa ob
  go_enter Tryd.func6, Tryd.ntmps6
  go_wp2_with fail
  refine (awake3_any w HT.out).mono ?_
  rintro e w0 ⟨rfl, k0⟩
  go_wp2_with fail
  refine (new_any w0).mono ?_
  rintro e w1 ⟨rfl, h1, k01, n1⟩
  have K1 := Lib.hid (k0.then k01)
  have hg : w.heap.size ≤ w0.heap.size := k0.size
  have H1 := Lib.hid h1
  clear h1 k01 k0
  have HN : Hid (NoTab w0.heap.size) := HT.out.fresh hg
  generalize w0.heap.size = g at *
  go_wp2_with fail
  refine (HSA.out w1 K1.out).mono ?_
  rintro e w2 ⟨rfl, rfl⟩
  go_wp2_with fail
  refine (write_any w1 g 0 [] _ sa H1.out n1 (HT.out.kept K1.out (fun _ _ h => h)) HN.out (HRA.out.kept K1.out (fun _ _ h => h)) HYA.out (fun k hk e => by have := HOA.out k hk; omega) (by simp; omega)).mono ?_
  rintro e w2 ⟨rfl, h2, kr2⟩
  rw [List.nil_append] at h2
  have K2 := Lib.hid (K1.out.trans kr2.kept (T := fun _ => False) (fun _ _ h => h) (fun i hi e => by omega))
  have n2 := Nat.lt_of_lt_of_le n1 kr2.kept.size
  have H2 := Lib.hid h2
  clear h2 kr2 H1 K1
  go_wp2_with fail
  refine (copy_any w2 g 0 sa H2.out).mono ?_
  rintro e w3 ⟨rfl, h3, k3, n3⟩
  have H3 := Lib.hid h3
  have H3g := Lib.hid (H2.out.kept k3 n2 (fun h => h))
  have K3 := Lib.hid (K2.out.then k3)
  have hg2 : g < w2.heap.size := n2
  have n3g := Nat.lt_of_lt_of_le n2 k3.size
  have hw2 : w.heap.size ≤ w2.heap.size := K2.out.size
  clear h3 k3 H2 K2
  generalize w2.heap.size = g2 at *
  go_wp2_with fail
  refine (reset_any w3 g 0 sa H3g.out).mono ?_
  rintro e w4 ⟨rfl, h4, k4⟩
  have H4 := Lib.hid h4
  have H4k := Lib.hid (H3.out.kept k4 n3 (by omega))
  have K4 := Lib.hid (K3.out.trans k4 (T := fun _ => False) (fun _ _ h => h) (fun i hi e => by omega))
  have n4 := Nat.lt_of_lt_of_le n3g k4.size
  have n4k := Nat.lt_of_lt_of_le n3 k4.size
  clear h4 k4 H3 H3g K3 n3 n3g n1
  go_wp2_with fail
  refine (len_any w4 g 0 [] H4.out).mono ?_
  rintro e w5 ⟨rfl, rfl⟩
  go_wp2_with fail
  refine (hsum_any w4 g 0 [] H4.out n4 (HT.out.kept K4.out (fun _ _ h => h)) (by simp)).mono ?_
  rintro e w5 ⟨rfl, k5⟩
  have H5 := Lib.hid (H4.out.kept k5 n4 (fun h => h))
  have H5k := Lib.hid (H4k.out.kept k5 n4k (fun h => h))
  have K5 := Lib.hid (K4.out.then k5)
  have n5 := Nat.lt_of_lt_of_le n4 k5.size
  have n5k := Nat.lt_of_lt_of_le n4k k5.size
  clear k5 H4 H4k K4 n4 n4k
  have EQ0 := Lib.hid (fun W => eqSame W [])
  have KS0 := Lib.hid (fun (W : World) (hk : Kept (fun _ => False) w W) => ksum_any W (.slice none 0 0) [] (Or.inl ⟨rfl, rfl⟩) (by simp) (HT.out.kept hk (fun _ _ h => h)) (by simp))
  generalize digS [] = d0 at *
  go_wp2_with fail
  refine (KS0.out w5 K5.out).mono ?_
  rintro e w6 ⟨rfl, k6⟩
  have H6 := Lib.hid (H5.out.kept k6 n5 (fun h => h))
  have H6k := Lib.hid (H5k.out.kept k6 n5k (fun h => h))
  have K6 := Lib.hid (K5.out.then k6)
  have n6 := Nat.lt_of_lt_of_le n5 k6.size
  have n6k := Nat.lt_of_lt_of_le n5k k6.size
  clear k6 H5 H5k K5 n5 n5k
  have he := EQ0.out w6
  clear EQ0 KS0
  go_wp2_with fail
  clear he
  refine (HSB.out w6 K6.out).mono ?_
  rintro e w7 ⟨rfl, rfl⟩
  go_wp2_with fail
  refine (write_any w6 g 0 [] _ sb H6.out n6 (HT.out.kept K6.out (fun _ _ h => h)) HN.out (HRB.out.kept K6.out (fun _ _ h => h)) HYB.out (fun k hk e => by have := HOB.out k hk; omega) (by simp; omega)).mono ?_
  rintro e w7 ⟨rfl, h7, kr7⟩
  rw [List.nil_append] at h7
  have K7 := Lib.hid (K6.out.trans kr7.kept (T := fun _ => False) (fun _ _ h => h) (fun i hi e => by omega))
  have n7 := Nat.lt_of_lt_of_le n6 kr7.kept.size
  have n7k := Nat.lt_of_lt_of_le n6k kr7.kept.size
  have H7 := Lib.hid h7
  have H7k := Lib.hid (H6k.out.kept kr7.kept n6k (by omega))
  clear h7 kr7 H6 H6k K6 n6 n6k
  go_wp2_with fail
  refine (hsum_any w7 g 0 sb H7.out n7 (HT.out.kept K7.out (fun _ _ h => h)) (by omega)).mono ?_
  rintro e w8 ⟨rfl, k8⟩
  have H8k := Lib.hid (H7k.out.kept k8 n7k (fun h => h))
  have K8 := Lib.hid (K7.out.then k8)
  have n8k := Nat.lt_of_lt_of_le n7k k8.size
  clear k8 H7 H7k K7 n7 n7k
  have EQB := Lib.hid (fun W => eqSame W sb)
  have KSB := Lib.hid (fun (W : World) (hk : Kept (fun _ => False) w W) => ksum_any W _ sb (HRB.out.kept hk (fun _ _ h => h)) HYB.out (HT.out.kept hk (fun _ _ h => h)) (by omega))
  generalize digS sb = db at *
  go_wp2_with fail
  refine (HSB.out w8 K8.out).mono ?_
  rintro e w9 ⟨rfl, rfl⟩
  go_wp2_with fail
  refine (KSB.out w8 K8.out).mono ?_
  rintro e w9 ⟨rfl, k9⟩
  have H9k := Lib.hid (H8k.out.kept k9 n8k (fun h => h))
  have K9 := Lib.hid (K8.out.then k9)
  have n9k := Nat.lt_of_lt_of_le n8k k9.size
  clear k9 H8k K8 n8k
  have he := EQB.out w9
  clear EQB KSB
  go_wp2_with fail
  clear he
  refine (hsum_any w9 g2 0 sa H9k.out n9k (HT.out.kept K9.out (fun _ _ h => h)) (by omega)).mono ?_
  rintro e w10 ⟨rfl, k10⟩
  have K10 := Lib.hid (K9.out.then k10)
  clear k10 H9k K9 n9k
  have EQA := Lib.hid (fun W => eqSame W sa)
  have KSA := Lib.hid (fun (W : World) (hk : Kept (fun _ => False) w W) => ksum_any W _ sa (HRA.out.kept hk (fun _ _ h => h)) HYA.out (HT.out.kept hk (fun _ _ h => h)) (by omega))
  generalize digS sa = da at *
  go_wp2_with fail
  refine (HSA.out w10 K10.out).mono ?_
  rintro e w11 ⟨rfl, rfl⟩
  go_wp2_with fail
  refine (KSA.out w10 K10.out).mono ?_
  rintro e w11 ⟨rfl, k11⟩
  have K11 := Lib.hid (K10.out.then k11)
  have he := EQA.out w11
  clear EQA KSA k11 K10
  go_wp2_with fail
  go_ret
  exact ⟨rfl, K11.out⟩
end Go.Proofs.YtnjmffmdlaobdabDoor
