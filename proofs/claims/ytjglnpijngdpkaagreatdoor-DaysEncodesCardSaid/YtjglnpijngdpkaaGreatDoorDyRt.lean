import Derived.Test.YtjglnpijngdpkaaGreatDoorDyRs
import Derived.Test.YtjglnpijngdpkaaGreatDoorGP
import Derived.Laws.Concat
import Derived.Lib.ConvBytes
import Derived.Lib.UnsafeStr
import Derived.Deep.Cut
import Derived.Deep.CutRange
/-
  arbacref05: digits, Text.
-/
namespace Go.Proofs.YtjglnpijngdpkaaGreatDoor
open Go.RowKit
set_option linter.unusedSimpArgs false
set_option linter.unusedVariables false
set_option maxRecDepth 100000

/-- A string of characters. -/
def strD (l : List UInt8) : ByteArray := ⟨l.toArray⟩
theorem strD_append (a b : List UInt8) : strD a ++ strD b = strD (a ++ b) := by
  refine ByteArray.ext ?_
  simp [strD]
theorem strD_size (a : List UInt8) : (strD a).size = a.length := by simp [strD, ByteArray.size]
theorem decDigits_len6D (n : Nat) (h : n < 1000000) : (Lib.decDigits n).length ≤ 6 := by
  rw [Lib.decDigits_length]
  have hu : Lib.nDigits n ≤ 6 := by
    have h1 : ∀ k : Nat, k < 10 → Lib.nDigits k ≤ 1 := fun k hk => by rw [Lib.nDigits_small hk]; exact Nat.le_refl _
    have hs : ∀ (k j : Nat), Lib.nDigits (k / 10) ≤ j → Lib.nDigits k ≤ j + 1 := fun k j hj => by
      by_cases e : k < 10
      · have := h1 k e; omega
      · rw [Lib.nDigits_big e]; omega
    exact hs _ _ (hs _ _ (hs _ _ (hs _ _ (hs _ _ (h1 _ (by omega))))))
  exact hu
theorem new1D (w : World) (x : Value) (T : TypeId) : (w.alloc (.cells #[x] T)).cell? ⟨w.heap.size, 0, none⟩ = some x := by go_simp
theorem new2D (w : World) (x y : Value) (T : TypeId) : (w.alloc (.cells #[x, y] T)).cell? ⟨w.heap.size, 0, none⟩ = some x ∧ (w.alloc (.cells #[x, y] T)).cell? ⟨w.heap.size, 1, none⟩ = some y := ⟨by go_simp, by go_simp⟩
/-- One byte in a block of its own, as a string. -/
theorem conv1D {w : World} {g c : Nat} {b : UInt8} (h : w.cell? ⟨g, 0, none⟩ = some (.int .u8 (b.toNat : Int))) :
    (convert 52 9 (.slice (some ⟨g, 0, none⟩) 1 c)).run Tryz.prog w = .ok (.string ⟨#[b]⟩) w := by
  have := run_convert_bytes_back (P := Tryz.prog) w 52 9 5 ⟨g, 0, none⟩ c [b] Tryz.underlying52 Tryz.underlying5 Tryz.underlying9 (fun j hj => by
    obtain rfl : j = 0 := by simp at hj; omega
    have hadd : (⟨g, 0, none⟩ : Addr).add 0 = ⟨g, 0, none⟩ := by unfold Addr.add; split <;> simp_all
    rw [hadd, h]
    simp [Lib.byteCells])
  exact this

set_option maxHeartbeats 1600000 in
theorem digits_lowD (n : Nat) (h : n < 10) (w : World) :
    Calls Tryz.prog 35 #[.int .i64 n] w fun e w' => e = .returned (.string (strD (Lib.decDigits n))) ∧ Kept (fun _ => False) w w' := by
  have h1 : (n : Int) < 10 := by omega
  obtain ⟨b, hb⟩ : ∃ b, b = UInt8.ofNat (48 + n) := ⟨_, rfl⟩
  have hbn : (b.toNat : Int) = 48 + (n : Int) := by
    rw [hb]
    have : (UInt8.ofNat (48 + n)).toNat = 48 + n := by simp; omega
    omega
  have h3 : IntKind.i64.wrap (48 + (n : Int)) = (b.toNat : Int) := by rw [hbn]; exact IntWalk.i64_in _ (by omega)
  have h4 : IntKind.u8.wrap (b.toNat : Int) = (b.toNat : Int) := by
    have := b.toNat_lt
    exact IntWalk.u8_in _ (by omega)
  have HD : Hid (strD (Lib.decDigits n) = ⟨#[b]⟩) := by
    show _ = _
    rw [Lib.decDigits_one h, hb]; rfl
  have HC : Hid (∀ W : World, (convert 52 9 (.slice (some ⟨W.heap.size, 0, none⟩) 1 1)).run Tryz.prog (W.alloc (.cells #[.int .u8 (b.toNat : Int)] 5)) = .ok (.string ⟨#[b]⟩) (W.alloc (.cells #[.int .u8 (b.toNat : Int)] 5))) := Lib.hid fun W => conv1D (new1D _ _ _)
  have hc := HC.out w
  clear h hb hbn
  rw [HD.out]
  go_enter Tryz.func35, Tryz.ntmps35
  go_wp2_with fail
  go_ret
  exact ⟨rfl, Kept.alloc _ _ _⟩

set_option maxHeartbeats 3200000 in
theorem digitsD_any : ∀ (d n : Nat), n ≤ d → d < 1000000 → ∀ w,
    Calls Tryz.prog 35 #[.int .i64 n] w fun e w' => e = .returned (.string (strD (Lib.decDigits n))) ∧ Kept (fun _ => False) w w' := by
  intro d
  induction d with
  | zero => intro n h _ w; exact digits_lowD n (by omega) w
  | succ d ih =>
    intro n h hd w
    by_cases h10 : n < 10
    · exact digits_lowD n h10 w
    · have HI := Lib.hid (fun w => ih (n / 10) (by omega) (by omega) w)
      obtain ⟨b, hb⟩ : ∃ b, b = UInt8.ofNat (48 + n % 10) := ⟨_, rfl⟩
      obtain ⟨q, hq⟩ : ∃ q, q = n / 10 := ⟨_, rfl⟩
      obtain ⟨r, hr⟩ : ∃ r, r = n % 10 := ⟨_, rfl⟩
      rw [← hr] at hb
      have hbn : (b.toNat : Int) = 48 + (r : Int) := by
        rw [hb]
        have : (UInt8.ofNat (48 + r)).toNat = 48 + r := by simp; omega
        omega
      have l1 := decDigits_len6D (n / 10) (by omega)
      rw [← hq] at HI l1
      have HD : Hid (strD (Lib.decDigits q) ++ (⟨#[b]⟩ : ByteArray) = strD (Lib.decDigits n)) := by
        show _ = _
        rw [show (⟨#[b]⟩ : ByteArray) = strD [b] from rfl, strD_append, Lib.decDigits.eq_def n, dif_neg h10, hb, ← hr, ← hq]
      obtain ⟨A, hA⟩ : ∃ A, A = strD (Lib.decDigits q) := ⟨_, rfl⟩
      rw [← hA] at HI HD
      have hsz : A.size ≤ 6 := by rw [hA, strD_size]; omega
      have hsz2 : ¬ 9223372036854775807 < A.size + 1 := by omega
      have h1 : ¬ (n : Int) < 10 := by omega
      have h21 : (n : Int).tdiv 10 = (q : Int) := by rw [Int.tdiv_eq_ediv_of_nonneg (by omega)]; omega
      have h22 : (n : Int) / 10 = (q : Int) := by omega
      have h31 : (n : Int).tmod 10 = (r : Int) := by rw [Int.tmod_eq_emod_of_nonneg (by omega)]; omega
      have h32 : (n : Int) % 10 = (r : Int) := by omega
      have hqb : IntKind.i64.wrap (q : Int) = (q : Int) := IntWalk.i64_in _ (by omega)
      have hrb : IntKind.i64.wrap (r : Int) = (r : Int) := IntWalk.i64_in _ (by omega)
      have h3 : IntKind.i64.wrap (48 + (r : Int)) = (b.toNat : Int) := by rw [hbn]; exact IntWalk.i64_in _ (by omega)
      have h4 : IntKind.u8.wrap (b.toNat : Int) = (b.toNat : Int) := by
        have := b.toNat_lt
        exact IntWalk.u8_in _ (by omega)
      have HC : Hid (∀ W W2 : World, Kept (fun _ => False) (W.alloc (.cells #[.int .u8 (b.toNat : Int)] 5)) W2 → (convert 52 9 (.slice (some ⟨W.heap.size, 0, none⟩) 1 1)).run Tryz.prog W2 = .ok (.string ⟨#[b]⟩) W2) := Lib.hid fun W W2 hk => conv1D ((hk.cell (p := ⟨W.heap.size, 0, none⟩) (by simp) (fun h => h)).trans (new1D _ _ _))
      clear ih hq hr h10 h hd hb hbn hA l1 hsz
      go_enter Tryz.func35, Tryz.ntmps35
      go_wp2_with fail
      have HC2 : Hid (∀ W W2 : World, Kept (fun _ => False) (W.alloc (.cells #[.int .u8 (b.toNat : Int)] 5)).drew W2 → (convert 52 9 (.slice (some ⟨W.heap.size, 0, none⟩) 1 1)).run Tryz.prog W2 = .ok (.string ⟨#[b]⟩) W2) := Lib.hid fun W W2 hk => HC.out W W2 (((Kept.refl _ _).drew).then hk)
      have hc0 := HC2.out w _ (Kept.refl _ _)
      go_region_with (go_at_call 35; with_reducible refine (HI.out _).mono ?_; rintro e w3 ⟨rfl, hk3⟩; have HK3 := Lib.hid hk3; have hc4 := HC.out w3 _ (Kept.refl _ _); first | (have hc3 := HC2.out w _ hk3) | skip; clear hk3)
      all_goals
        go_wp2_with fail
        go_ret
        rw [HD.out]
        first
          | exact ⟨rfl, (((Kept.refl _ _).drew).then HK3.out).then (Kept.alloc _ _ _)⟩
          | exact ⟨rfl, ((Kept.alloc _ _ _).drew).then HK3.out⟩
          | exact ⟨rfl, (((Kept.refl _ _).drew).then (Kept.alloc _ _ _)).then HK3.out⟩

set_option maxHeartbeats 6400000 in
theorem rtextD_any (w0 : World) (v : Value) (s : List Bool) (t : List Int) (h : RowG EB w0 v s) (hs : s.length = 30001) (hcan : CanD t) (hv : ∀ d : Nat, d ≤ 30000 → s.getD d false = inD t (d : Int)) (hn : (spansD t).length ≤ 100000) :
    Calls Tryz.prog 9 #[v] w0 fun e w' => e = .returned (.string (strD (textD t))) ∧ Kept (fun _ => False) w0 w' := by
  have HS := Lib.hid (fun W (hk : Kept (fun _ => False) w0 W) => rspansD_any W v s t (h.on hk) hs hcan hv)
  have HT := Lib.hid hcan
  have hok := spansD_ok hcan
  have HNIL := Lib.hid (fun (e : spansD t = []) => spansD_nil hcan e)
  have HTX := Lib.hid (fun (h1 : t ≠ []) (h2 : t ≠ [0, 30001]) => textD_head hcan h1 h2)
  obtain ⟨T, hT⟩ : ∃ T, T = textD t := ⟨_, rfl⟩
  obtain ⟨L, hL⟩ : ∃ L, L = spansD t := ⟨_, rfl⟩
  rw [← hL] at HS hok hn HNIL HTX
  rw [← hT]
  obtain ⟨N, hN⟩ : ∃ N, N = L.length := ⟨_, rfl⟩
  rw [← hN] at hn
  have HTT := Lib.hid hT; have HN := Lib.hid hN; have HOK := Lib.hid hok
  have HALL : Hid (N = 1 → (L.getD 0 (0, 0)).1 = 0 → (L.getD 0 (0, 0)).2 = 30000 → t = [0, 30001]) := Lib.hid fun h1 h2 h3 => by
    refine canD_unique hcan allD_can fun d h4 h5 => ?_
    rw [← spanIn_spansD hcan, ← spanIn_spansD (t := [0, 30001]) allD_can, ← hL]
    obtain ⟨p, rfl⟩ : ∃ p, L = [p] := List.length_eq_one_iff.1 (hN.symm.trans h1)
    obtain ⟨x, y⟩ := p
    simp at h2 h3
    subst h2; subst h3
    rfl
  have HNE : Hid (¬ N = 0 → t ≠ []) := Lib.hid fun h1 h2 => h1 (by rw [hN, hL, h2]; rfl)
  have HNOT : Hid (t = [0, 30001] → N = 1 ∧ (L.getD 0 (0, 0)).1 = 0 ∧ (L.getD 0 (0, 0)).2 = 30000) := Lib.hid fun h1 => by
    rw [hN, hL, h1]; exact ⟨rfl, rfl, rfl⟩
  clear h hs hv hcan hT hL hN hok
  go_enter Tryz.func9, Tryz.ntmps9
  go_wp2_with fail
  refine (HS.out _ (Kept.refl _ _)).mono ?_
  rintro e w1 ⟨u, rfl, hrow, hk⟩
  have hrow2 := hrow.row
  obtain ⟨ua, uc, rfl, hnc, hcm⟩ := hrow2.form
  rw [← HN.out] at hnc
  unfold maxLen at hcm
  have HR := Lib.hid hrow2; have HK := Lib.hid hk
  have hNl : L.length = N := HN.out.symm
  rw [hNl]
  clear hrow hrow2 hk HS
  by_cases hN0 : N = 0
  · subst hN0
    have HE : Hid (T = noneB) := Lib.hid (by rw [HTT.out, HNIL.out (List.length_eq_zero_iff.1 hNl)]; rfl)
    clear hNl
    go_wp2_with fail
    go_ret
    exact ⟨by rw [HE.out]; rfl, HK.out⟩
  have hN0i : ¬ (N : Int) = 0 := by omega
  have hN0b : ((N : Int) == 0) = false := by rw [beq_eq_false_iff_ne]; exact hN0i
  obtain ⟨g, off, rfl, hg, hc0⟩ := HR.out.at (k := 0) (by rw [hNl]; omega)
  obtain ⟨c0, c1⟩ := atESp hc0
  rw [Nat.zero_mul, Nat.add_zero] at c0 c1
  obtain ⟨q, hq⟩ : ∃ q, q = decide (t = [0, 30001]) := ⟨_, rfl⟩
  have hNp : (0 : Int) < (N : Int) := by omega
  have HQ := Lib.hid hq
  have hd : L.getD 0 ESp.d = L.getD 0 (0, 0) := rfl
  rw [hd] at c0 c1
  have hone : (¬ N = 1 ∧ q = false) ∨ (N = 1 ∧ ¬ (L.getD 0 (0, 0)).1 = 0 ∧ q = false) ∨ (N = 1 ∧ (L.getD 0 (0, 0)).1 = 0 ∧ ¬ (L.getD 0 (0, 0)).2 = 30000 ∧ q = false) ∨ (N = 1 ∧ (L.getD 0 (0, 0)).1 = 0 ∧ (L.getD 0 (0, 0)).2 = 30000 ∧ q = true) := by
    by_cases e1 : N = 1
    · by_cases e2 : (L.getD 0 (0, 0)).1 = 0
      · by_cases e3 : (L.getD 0 (0, 0)).2 = 30000
        · exact Or.inr (Or.inr (Or.inr ⟨e1, e2, e3, by rw [hq]; exact decide_eq_true (HALL.out e1 e2 e3)⟩))
        · exact Or.inr (Or.inr (Or.inl ⟨e1, e2, e3, by rw [hq]; exact decide_eq_false fun h => e3 (HNOT.out h).2.2⟩))
      · exact Or.inr (Or.inl ⟨e1, e2, by rw [hq]; exact decide_eq_false fun h => e2 (HNOT.out h).2.1⟩)
    · exact Or.inl ⟨e1, by rw [hq]; exact decide_eq_false fun h => e1 (HNOT.out h).1⟩
  have HOne := Lib.hid hone
  clear hone hd hc0 hq
  generalize (L.getD 0 (0, 0)).1 = x0 at *
  generalize (L.getD 0 (0, 0)).2 = y0 at *
  go_upto_region 4 with fail
  go_cut [3, 28] from 12 to 28 (fun lv bv wx => lv = .slice (some ⟨g, off, none⟩) N uc ∧ bv = .bool q ∧ wx = w1)
  case first =>
    rcases HOne.out with ⟨e1, rfl⟩ | ⟨e1, e2, rfl⟩ | ⟨e1, e2, e3, rfl⟩ | ⟨e1, e2, e3, rfl⟩
    · have e1' : ¬ (N : Int) = 1 := by omega
      have e1b : ((N : Int) == 1) = false := by rw [beq_eq_false_iff_ne]; omega
      go_wp2_with fail
      go_meet
      exact ⟨rfl, rfl, rfl⟩
    · subst e1
      have e2b : (x0 == 0) = false := by rw [beq_eq_false_iff_ne]; exact e2
      go_wp2_with fail
      go_meet
      exact ⟨rfl, rfl, rfl⟩
    · subst e1; subst e2
      have e3b : (y0 == 30000) = false := by rw [beq_eq_false_iff_ne]; exact e3
      go_wp2_with fail
      go_meet
      exact ⟨rfl, rfl, rfl⟩
    · subst e1; subst e2; subst e3
      go_wp2_with fail
      go_meet
      exact ⟨rfl, rfl, rfl⟩
  case rest =>
    obtain ⟨rfl, rfl, rfl⟩ := hcut
    cases q with
    | true =>
      have HE : Hid (T = allB) := Lib.hid (by rw [HTT.out, of_decide_eq_true HQ.out.symm]; rfl)
      go_wp2_with fail
      go_ret
      exact ⟨by rw [HE.out]; rfl, HK.out⟩
    | false =>
      have HE : Hid (T = txD L) := Lib.hid (by
        have h1 : t ≠ [] := HNE.out hN0
        exact HTT.out.trans (HTX.out h1 (of_decide_eq_false HQ.out.symm)))
      go_wp2_with fail
      clear c0 c1 HALL HNOT HOne HQ hNp HNE HTX HNIL HTT
      go_loopw [4, 31] (fun ov iv wr => ∃ k : Nat, k ≤ N ∧ iv = .int .i64 (k : Int) ∧ ov = .string (strD (txD (L.take k))) ∧ Hid (Kept (fun _ => False) wc wr)) (fun _ iv _ => N - (intOf iv).toNat)
      case atStart => exact ⟨0, Nat.zero_le _, rfl, rfl, Kept.refl _ _⟩
      case round =>
        obtain ⟨k, hk, rfl, rfl, hkw⟩ := hrel
        by_cases hlt : k < N
        · have l1 : (k : Int) < (N : Int) := by omega
          have l0 : (0 : Int) ≤ (k : Int) := by omega
          obtain ⟨g', off', e, hg', hck⟩ := HR.out.at (k := k) (by rw [hNl]; exact hlt)
          obtain ⟨rfl, rfl⟩ : g = g' ∧ off = off' := by injection e with e; injection e with h1 h2; exact ⟨h1, h2⟩
          obtain ⟨d0, d1⟩ := atESp hck
          have b0 := (hkw.out.cell (p := ⟨g, off + k * ESp.z, none⟩) hg' (fun h => h)).trans d0
          have b1 := (hkw.out.cell (p := ⟨g, off + k * ESp.z + 1, none⟩) hg' (fun h => h)).trans d1
          rw [show ESp.z = 2 from rfl] at b0 b1
          have hmem : L.getD k ESp.d ∈ L := by
            rw [List.getD_eq_getElem?_getD, List.getElem?_eq_getElem (by rw [hNl]; exact hlt)]; exact List.getElem_mem _
          have hok := HOK.out _ hmem
          have hstep : txD (L.take (k + 1)) = (if k = 0 then [] else txD (L.take k) ++ [44]) ++ spanT (L.getD k ESp.d) := by
            have ht : L.take (k + 1) = L.take k ++ [L.getD k ESp.d] := by
              rw [List.take_add_one, List.getD_eq_getElem?_getD, List.getElem?_eq_getElem (by rw [hNl]; exact hlt)]; rfl
            rw [ht, txD_next _ _ (fun p hp => (HOK.out p (List.mem_of_mem_take hp)).1), List.length_take, Nat.min_eq_left (by rw [hNl]; exact hk)]
          have hal := txD_len (L.take k) (fun p hp => HOK.out p (List.mem_of_mem_take hp))
          rw [List.length_take, hNl] at hal
          generalize L.getD k ESp.d = pq at *
          obtain ⟨px, py⟩ := pq
          obtain ⟨o1, o2, o3⟩ := hok
          simp only at o1 o2 o3 b0 b1
          obtain ⟨x, rfl⟩ := Int.eq_ofNat_of_zero_le o1
          obtain ⟨y, rfl⟩ := Int.eq_ofNat_of_zero_le (show 0 ≤ py by omega)
          have HX := Lib.hid (fun W => digitsD_any x x (Nat.le_refl _) (by omega) W)
          have HY := Lib.hid (fun W => digitsD_any y y (Nat.le_refl _) (by omega) W)
          unfold spanT at hstep
          simp only [Lib.itoa_nonneg] at hstep
          have z1 := decDigits_len6D x (by omega)
          have z2 := decDigits_len6D y (by omega)
          have HSTEP := Lib.hid hstep
          obtain ⟨A, hA⟩ : ∃ A, A = strD (txD (L.take k)) := ⟨_, rfl⟩
          obtain ⟨X, hX⟩ : ∃ X, X = strD (Lib.decDigits x) := ⟨_, rfl⟩
          obtain ⟨Y, hY⟩ : ∃ Y, Y = strD (Lib.decDigits y) := ⟨_, rfl⟩
          rw [← hX] at HX
          rw [← hY] at HY
          have s0 : A.size ≤ 1200000 := by rw [hA, strD_size]; omega
          have s1 : X.size ≤ 6 := by rw [hX, strD_size]; omega
          have s2 : Y.size ≤ 6 := by rw [hY, strD_size]; omega
          have HA := Lib.hid hA; have HXX := Lib.hid hX; have HYY := Lib.hid hY
          rw [← hA]
          have t1 : ¬ 9223372036854775807 < A.size + 1 := by omega
          have t2 : ¬ 9223372036854775807 < A.size + 1 + X.size := by omega
          have t3 : ¬ 9223372036854775807 < A.size + 1 + X.size + 1 := by omega
          have t4 : ¬ 9223372036854775807 < A.size + 1 + X.size + 1 + Y.size := by omega
          have t5 : ¬ 9223372036854775807 < A.size + X.size := by omega
          have t6 : ¬ 9223372036854775807 < A.size + X.size + 1 := by omega
          have t7 : ¬ 9223372036854775807 < A.size + X.size + 1 + Y.size := by omega
          have hNEW : Hid (∀ W2 : World, Kept (fun _ => False) (wr.alloc (.cells #[.int .i64 (x : Int), .int .i64 (y : Int)] 62)) W2 → W2.cell? ⟨wr.heap.size, 0, none⟩ = some (.int .i64 (x : Int)) ∧ W2.cell? ⟨wr.heap.size, 1, none⟩ = some (.int .i64 (y : Int))) := Lib.hid fun W2 hk2 =>
            ⟨(hk2.cell (p := ⟨wr.heap.size, 0, none⟩) (by simp) (fun h => h)).trans (new2D _ _ _ _).1, (hk2.cell (p := ⟨wr.heap.size, 1, none⟩) (by simp) (fun h => h)).trans (new2D _ _ _ _).2⟩
          clear hstep hA hX hY hal hmem hck d0 d1 hg' hk s0 s1 s2 z1 z2 e o1
          by_cases h0 : k = 0
          · have h0i : ¬ (0 : Int) < (k : Int) := by omega
            have h0b : decide ((0 : Int) < (k : Int)) = false := decide_eq_false h0i
            have HP : Hid (A = strD (if k = 0 then [] else txD (L.take k) ++ [44])) := Lib.hid (by rw [if_pos h0, HA.out, h0]; rfl)
            have HE1 : Hid ((x : Int) = (y : Int) → A ++ X = strD (txD (L.take (k + 1)))) := Lib.hid fun e => by
              rw [HP.out, HXX.out, HSTEP.out, if_pos e, List.append_nil, strD_append]
            have HE2 : Hid (¬ (x : Int) = (y : Int) → (y : Int) = 30000 → A ++ X ++ (⟨#[45]⟩ : ByteArray) = strD (txD (L.take (k + 1)))) := Lib.hid fun e e2 => by
              rw [HP.out, HXX.out, HSTEP.out, if_neg e, if_pos e2, show (⟨#[45]⟩ : ByteArray) = strD [45] from rfl, strD_append, strD_append, List.append_assoc]
            have HE3 : Hid (¬ (x : Int) = (y : Int) → ¬ (y : Int) = 30000 → A ++ X ++ (⟨#[45]⟩ : ByteArray) ++ Y = strD (txD (L.take (k + 1)))) := Lib.hid fun e e2 => by
              rw [HP.out, HXX.out, HYY.out, HSTEP.out, if_neg e, if_neg e2, show (⟨#[45]⟩ : ByteArray) = strD [45] from rfl, strD_append, strD_append, strD_append]
              simp
            clear h0
            go_wp2_with fail
            refine (HX.out _).mono ?_
            rintro e w2 ⟨rfl, k2⟩
            obtain ⟨q0, q1⟩ := hNEW.out _ k2
            have K2 := Lib.hid k2
            clear k2
            by_cases hxy : (x : Int) = (y : Int)
            · have hxyb : ((x : Int) == (y : Int)) = true := by rw [hxy]; simp
              have HF := Lib.hid (HE1.out hxy)
              go_wp2_with fail
              go_roundw
              case rel => exact ⟨k + 1, by omega, by go_num, by rw [← HF.out], (hkw.out.then (Kept.alloc _ _ _)).then K2.out⟩
              case measure => simp [intOf]; omega
            · have hxyb : ((x : Int) == (y : Int)) = false := by rw [beq_eq_false_iff_ne]; exact hxy
              by_cases hy : (y : Int) < 30000
              · have HF := Lib.hid (HE3.out hxy (by omega))
                go_wp2_with fail
                refine (HY.out _).mono ?_
                rintro e w3 ⟨rfl, k3⟩
                have K3 := Lib.hid k3
                clear k3
                go_wp2_with fail
                go_roundw
                case rel => exact ⟨k + 1, by omega, by go_num, by rw [← HF.out], ((hkw.out.then (Kept.alloc _ _ _)).then K2.out).then K3.out⟩
                case measure => simp [intOf]; omega
              · have HF := Lib.hid (HE2.out hxy (by omega))
                have hyb : decide ((y : Int) < 30000) = false := decide_eq_false hy
                clear o2 o3
                go_wp2_with fail
                go_roundw
                case rel => exact ⟨k + 1, by omega, by go_num, by rw [← HF.out], (hkw.out.then (Kept.alloc _ _ _)).then K2.out⟩
                case measure => simp [intOf]; omega
          · have h0i : (0 : Int) < (k : Int) := by omega
            have h0b : decide ((0 : Int) < (k : Int)) = true := decide_eq_true h0i
            have HP : Hid (A ++ (⟨#[44]⟩ : ByteArray) = strD (if k = 0 then [] else txD (L.take k) ++ [44])) := Lib.hid (by rw [if_neg h0, HA.out, show (⟨#[44]⟩ : ByteArray) = strD [44] from rfl, strD_append])
            have HE1 : Hid ((x : Int) = (y : Int) → A ++ (⟨#[44]⟩ : ByteArray) ++ X = strD (txD (L.take (k + 1)))) := Lib.hid fun e => by
              rw [HP.out, HXX.out, HSTEP.out, if_pos e, List.append_nil, strD_append]
            have HE2 : Hid (¬ (x : Int) = (y : Int) → (y : Int) = 30000 → A ++ (⟨#[44]⟩ : ByteArray) ++ X ++ (⟨#[45]⟩ : ByteArray) = strD (txD (L.take (k + 1)))) := Lib.hid fun e e2 => by
              rw [HP.out, HXX.out, HSTEP.out, if_neg e, if_pos e2, show (⟨#[45]⟩ : ByteArray) = strD [45] from rfl, strD_append, strD_append, List.append_assoc]
            have HE3 : Hid (¬ (x : Int) = (y : Int) → ¬ (y : Int) = 30000 → A ++ (⟨#[44]⟩ : ByteArray) ++ X ++ (⟨#[45]⟩ : ByteArray) ++ Y = strD (txD (L.take (k + 1)))) := Lib.hid fun e e2 => by
              rw [HP.out, HXX.out, HYY.out, HSTEP.out, if_neg e, if_neg e2, show (⟨#[45]⟩ : ByteArray) = strD [45] from rfl, strD_append, strD_append, strD_append]
              simp
            go_wp2_with fail
            refine (HX.out _).mono ?_
            rintro e w2 ⟨rfl, k2⟩
            obtain ⟨q0, q1⟩ := hNEW.out _ k2
            have K2 := Lib.hid k2
            clear k2
            by_cases hxy : (x : Int) = (y : Int)
            · have hxyb : ((x : Int) == (y : Int)) = true := by rw [hxy]; simp
              have HF := Lib.hid (HE1.out hxy)
              go_wp2_with fail
              go_roundw
              case rel => exact ⟨k + 1, by omega, by go_num, by rw [← HF.out], (hkw.out.then (Kept.alloc _ _ _)).then K2.out⟩
              case measure => simp [intOf]; omega
            · have hxyb : ((x : Int) == (y : Int)) = false := by rw [beq_eq_false_iff_ne]; exact hxy
              by_cases hy : (y : Int) < 30000
              · have HF := Lib.hid (HE3.out hxy (by omega))
                go_wp2_with fail
                refine (HY.out _).mono ?_
                rintro e w3 ⟨rfl, k3⟩
                have K3 := Lib.hid k3
                clear k3
                go_wp2_with fail
                go_roundw
                case rel => exact ⟨k + 1, by omega, by go_num, by rw [← HF.out], ((hkw.out.then (Kept.alloc _ _ _)).then K2.out).then K3.out⟩
                case measure => simp [intOf]; omega
              · have HF := Lib.hid (HE2.out hxy (by omega))
                have hyb : decide ((y : Int) < 30000) = false := decide_eq_false hy
                clear o2 o3
                go_wp2_with fail
                go_roundw
                case rel => exact ⟨k + 1, by omega, by go_num, by rw [← HF.out], (hkw.out.then (Kept.alloc _ _ _)).then K2.out⟩
                case measure => simp [intOf]; omega
        · obtain rfl : k = N := by omega
          have HF : Hid (strD (txD (L.take k)) = strD T) := Lib.hid (by rw [HE.out, List.take_of_length_le (by rw [hNl]; exact Nat.le_refl _)])
          obtain ⟨ZZ, hZZ⟩ : ∃ ZZ, ZZ = strD (txD (L.take k)) := ⟨_, rfl⟩
          rw [← hZZ] at HF ⊢
          have HKF := Lib.hid (HK.out.then hkw.out)
          clear hZZ hkw
          go_wp2_with fail
          go_ret
          have hz := HF.out
          subst hz
          exact ⟨rfl, HKF.out⟩
end Go.Proofs.YtjglnpijngdpkaaGreatDoor
