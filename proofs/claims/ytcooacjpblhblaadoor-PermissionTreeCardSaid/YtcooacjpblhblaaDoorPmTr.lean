/-
  PermissionTree returns true.
-/
import Derived.Test.YtcooacjpblhblaaDoorPmMk
import Derived.Test.YtcooacjpblhblaaDoorPmAw
import Derived.Test.YtcooacjpblhblaaDoorPmW
namespace Go.Proofs.YtcooacjpblhblaaDoor
open Go.RowKit
set_option linter.unusedSimpArgs false
set_option linter.unusedVariables false

/-- Within, by the ancestors. -/
theorem within_anc {s q : ByteArray} (hs : (namesS s).isSome = true) (hq : (namesS q).isSome = true) : withinS s q = (decide (s = q) || (ancS s).any fun u => decide (u = q)) := by
  obtain ⟨xs, hn⟩ := Option.isSome_iff_exists.1 hs
  obtain ⟨ys, hm⟩ := Option.isSome_iff_exists.1 hq
  rw [Bool.eq_iff_iff, within_iff, Bool.or_eq_true, List.any_eq_true, decide_eq_true_eq]
  constructor
  · rintro ⟨a, b, h1, h2, h3⟩
    rw [hn] at h1; cases h1
    rw [hm] at h2; cases h2
    by_cases hl : ys.length = xs.length
    · left
      have e1 : ys = xs := h3.eq_of_length_le (by omega)
      subst e1
      exact namesS_inj hn hm
    · right
      have hlt : ys.length < xs.length := Nat.lt_of_le_of_ne h3.length_le hl
      refine ⟨q, (mem_anc hn).2 ⟨ys.length, hlt, ?_⟩, decide_eq_true rfl⟩
      rw [← List.prefix_iff_eq_take.1 h3]
      exact (pathS_names hm).1
  · rintro (h | ⟨u, h1, h2⟩)
    · rw [← h]; exact ⟨xs, xs, hn, hn, List.prefix_refl _⟩
    · obtain ⟨k, _, rfl⟩ := (mem_anc hn).1 h1
      have h3 := of_decide_eq_true h2
      rw [← h3]
      exact ⟨xs, xs.take k, hn, nm_take hn k, List.take_prefix _ _⟩
theorem cov_tree {x : Per} {s : ByteArray} (hx : okP x = true) (hs : (namesS s).isSome = true) : covP x x.a s = (decide (s = x.p) || (x.d && (ancS s).any fun u => decide (u = x.p))) := by
  rw [covP_eq, hx, hs, within_anc hs (okP_path hx)]
  cases decide (s = x.p) <;> simp
theorem any_take (U : List ByteArray) (f : ByteArray → Bool) (k : Nat) (hk : k < U.length) : (U.take (k + 1)).any f = ((U.take k).any f || f (U.getD k ⟨#[]⟩)) := by
  rw [List.take_add_one, List.any_append, List.getD_eq_getElem?_getD, List.getElem?_eq_getElem hk]
  simp

set_option maxRecDepth 100000 in
set_option maxHeartbeats 3200000 in
theorem tree11_any (v0 v1 : Value) (r0 : RawP) (xs : List Nat) (B : Nat) (w : World) (h0 : RawIn w v0 r0 B) (hl : Loose w v1 xs B) (hxs : ∀ x ∈ xs, x < 256) :
    Calls Tryd.prog 8 #[v0, v1] w fun e w' => e = .returned (.bool true) ∧ Kept (fun _ => False) w w' := by
  have HM0 := Lib.hid (fun W (hk : Kept (fun _ => False) w W) => make11_any v0 r0 B W (h0.kept hk (fun _ _ h => h)))
  have HP := Lib.hid (fun W (hk : Kept (fun _ => False) w W) => rpath_any v1 xs B W (hl.kept hk (fun _ _ h => h)) hxs hl.le)
  have hsz := per_size r0
  have hps := rawS_size xs
  obtain ⟨nv0, rfl, _⟩ := h0
  obtain ⟨n0, xs0, e0⟩ := r0
  simp only at HM0 ⊢
  generalize RawP.per ⟨n0, xs0, e0⟩ = x at *
  generalize rawS xs = s at *
  have HCK := Lib.hid (fun W => pcheck_any x (by omega) W)
  have HVL := Lib.hid (fun W => pvalid_any s (by omega) W)
  have HCV := Lib.hid (fun W => pcov_any x x.a s (by omega) (by omega) W)
  have HAN := Lib.hid (fun W => panc_any s (by omega) W)
  have hz := chkP_zero x
  have hno : okP x = false ∨ (namesS s).isSome = false → covP x x.a s = false := fun h => by
    rw [covP_eq]; rcases h with h | h <;> rw [h] <;> simp
  have hyes : okP x = true → (namesS s).isSome = true → covP x x.a s = (decide (s = x.p) || (x.d && (ancS s).any fun u => decide (u = x.p))) := fun h1 h2 => cov_tree h1 h2
  obtain ⟨U, hU⟩ : ∃ U, U = ancS s := ⟨_, rfl⟩
  rw [← hU] at HAN hyes
  generalize covP x x.a s = CV at *
  generalize chkP x = C at *
  generalize okP x = O at *
  generalize (namesS s).isSome = NS at *
  obtain ⟨a, p, d⟩ := x
  unfold perV at *
  simp only at HM0 HCK HCV hyes
  have q0 : (s.toList == p.toList) = decide (s = p) := str_eq s p
  have HNO := Lib.hid hno; have HYES := Lib.hid hyes
  have HZ0 := Lib.hid (Zb.new w 24 (.int .u8 n0) nv0 (.bool e0))
  have HK := Lib.hid (Kept.alloc (fun _ => False) w (.cells #[.int .u8 n0, nv0, .bool e0] 24))
  clear hsz hps hl hxs hU hno hyes
  go_enter Tryd.func8, Tryd.ntmps8
  go_wp2_with fail
  refine (awake11_any _).mono ?_
  generalize w.alloc (.cells #[.int .u8 n0, nv0, .bool e0] 24) = W1 at *
  rintro e w2 ⟨rfl, k2⟩
  obtain ⟨⟨c0, c1, c2⟩, _⟩ := (HZ0.out.kept k2 (fun h => h)).cells
  have K2 := Lib.hid (HK.out.then k2)
  clear k2 HK HZ0
  go_wp2_with fail
  refine (HM0.out _ K2.out).mono ?_
  rintro e w3 ⟨rfl, k3⟩
  have K3 := Lib.hid (K2.out.then k3)
  have B1 := Lib.hid ((Bx.new w3 a p d 27).stay (Kept.alloc (fun _ => False) _ (.cells #[.string a, .string p, .bool d] 28)))
  have KA := (Kept.alloc (fun _ => False) w3 (.cells #[.string a, .string p, .bool d] 27)).then (Kept.alloc (fun _ => False) _ (.cells #[.string a, .string p, .bool d] 28))
  have K4 := Lib.hid (K3.out.then KA)
  clear k3 c0 c1 c2 KA K2 K3 HM0
  go_wp2_with fail
  generalize (w3.alloc (.cells #[.string a, .string p, .bool d] 27)).alloc (.cells #[.string a, .string p, .bool d] 28) = W4 at *
  generalize w3.heap.size = P at *
  refine (HP.out _ K4.out).mono ?_
  rintro e w5 ⟨rfl, k5⟩
  have K5 := Lib.hid (K4.out.then k5)
  have B5 := Lib.hid (B1.out.stay k5)
  obtain ⟨b0, b1, b2⟩ := B5.out
  clear k5 K4 B1 HP
  go_wp2_with fail
  refine (HCK.out _).mono ?_
  rintro e w6 ⟨rfl, k6⟩
  have K6 := Lib.hid (K5.out.then k6)
  have B6 := Lib.hid (B5.out.stay k6)
  obtain ⟨b0, b1, b2⟩ := B6.out
  clear k6 K5 B5
  by_cases hc : C = 0
  · have hO : O = true := hz.1 hc
    subst hc; subst hO
    clear hz
    go_wp2_with fail
    refine (HVL.out _).mono ?_
    rintro e w7 ⟨rfl, k7⟩
    have K7 := Lib.hid (K6.out.then k7)
    have B7 := Lib.hid (B6.out.stay k7)
    obtain ⟨b0, b1, b2⟩ := B7.out
    clear k7 K6 B6
    cases NS with
    | false =>
      have hv : CV = false := HNO.out (by first | exact Or.inr rfl | simp)
      subst hv
      clear HNO HYES
      go_wp2_with fail
      refine (HCV.out _).mono ?_
      rintro e w8 ⟨rfl, k8⟩
      have K8 := Lib.hid (K7.out.then k8)
      clear k8
      go_wp2_with fail
      go_ret
      exact ⟨rfl, K8.out⟩
    | true =>
      have hv := HYES.out (by first | rfl | trivial) (by first | rfl | trivial)
      have HV := Lib.hid hv
      obtain ⟨E, hE⟩ : ∃ E, E = decide (s = p) := ⟨_, rfl⟩
      rw [← hE] at q0 HV
      clear HNO HYES hv hE
      obtain ⟨N, hN⟩ : ∃ N, N = U.length := ⟨_, rfl⟩
      have HN := Lib.hid hN
      go_wp2_with fail
      refine (HAN.out _).mono ?_
      rintro e w8 ⟨v8, rfl, s8, k8⟩
      obtain ⟨va, vc, rfl, hvc, hvm⟩ := s8.form
      rw [← hN] at s8 hvc ⊢
      unfold maxLen at hvm
      have K8 := Lib.hid (K7.out.then k8)
      have B8 := Lib.hid (B7.out.stay k8)
      have S8 := Lib.hid s8
      obtain ⟨b0, b1, b2⟩ := B8.out
      clear k8 K7 B7 s8 hN HAN
      go_wp2_with fail
      go_loopw [8, 10, 50] (fun bv _ iv wr => ∃ k : Nat, k ≤ N ∧ iv = .int .i64 (k : Int) ∧ (∃ b : Bool, bv = .bool b ∧ Hid (b = (E || (d && (U.take k).any fun u => decide (u = p))))) ∧ wr = w8) (fun _ _ iv _ => N - (intOf iv).toNat)
      case atStart => exact ⟨0, Nat.zero_le _, rfl, ⟨E, rfl, Lib.hid (by simp)⟩, by first | rfl | trivial⟩
      case round =>
        obtain ⟨k, hk, rfl, ⟨b, rfl, hb⟩, rfl⟩ := hrel
        by_cases hlt : k < N
        · have l1 : (k : Int) < (N : Int) := by omega
          have l0 : (0 : Int) ≤ (k : Int) := by omega
          have hkl : k < U.length := by have := HN.out; omega
          obtain ⟨g, off, rfl, hg, hcell⟩ := S8.out.at (k := k) hkl
          have hat := any_take U (fun u => decide (u = p)) k hkl
          obtain ⟨u, hu⟩ : ∃ u, u = U.getD k ⟨#[]⟩ := ⟨_, rfl⟩
          rw [← hu] at hcell hat
          have q1 : (u.toList == p.toList) = decide (u = p) := str_eq u p
          generalize decide (u = p) = F at q1 hat
          have hnx : Hid ((b || (d && F)) = (E || (d && (U.take (k + 1)).any fun u => decide (u = p)))) := Lib.hid (by
            rw [hb.out, hat]
            cases E <;> cases d <;> simp)
          clear hat hu hb
          cases b with
          | true =>
            go_wp2_with fail
            go_roundw
            case rel => exact ⟨k + 1, by omega, by go_num, ⟨true, rfl, hnx⟩, by first | rfl | trivial⟩
            case measure => simp [intOf]; omega
          | false =>
            cases d with
            | false =>
              go_wp2_with fail
              go_roundw
              case rel => exact ⟨k + 1, by omega, by go_num, ⟨false, rfl, hnx⟩, by first | rfl | trivial⟩
              case measure => simp [intOf]; omega
            | true =>
              go_wp2_with fail
              go_roundw
              case rel => exact ⟨k + 1, by omega, by go_num, ⟨F, by first | rfl | (rw [q1]; done) | simp [q1], Lib.hid (by simpa using hnx.out)⟩, by first | rfl | trivial⟩
              case measure => simp [intOf]; omega
        · obtain rfl : k = N := by omega
          have hbv : CV = b := by
            rw [HV.out, hb.out, HN.out, List.take_length]
          subst hbv
          clear hb HV
          go_wp2_with fail
          refine (HCV.out _).mono ?_
          rintro e w9 ⟨rfl, k9⟩
          have K9 := Lib.hid (K8.out.then k9)
          clear k9
          go_wp2_with fail
          go_ret
          exact ⟨by first | rfl | simp, K9.out⟩
  · have hcb : (C != 0) = true := by simpa using hc
    have hcc : (C == 0) = false := beq_eq_false_iff_ne.2 hc
    have hO : O = false := by
      cases O with
      | false => rfl
      | true => exact absurd (hz.2 rfl) hc
    have hv : CV = false := HNO.out (by rw [hO]; exact Or.inl rfl)
    subst hv
    clear HNO HYES hz hO
    go_wp2_with fail
    refine (HCV.out _).mono ?_
    rintro e w8 ⟨rfl, k8⟩
    have K8 := Lib.hid (K6.out.then k8)
    clear k8
    go_wp2_with fail
    go_ret
    exact ⟨rfl, K8.out⟩
end Go.Proofs.YtcooacjpblhblaaDoor
