/-
  Lists of names that can be added one after the other; their encodings tell them apart; names.Table.Equal.
-/
import Derived.Test.YtmhfbcapmlofbaaNamO
import Derived.BigQuiet
namespace Go.Proofs.Ytmhfbcapmlofbaa
open Go.RowKit

theorem strB_byte8 (s : ByteArray) : ∀ b ∈ strB s, b < 256 := by
  intro b hb
  simp only [strB, List.mem_map] at hb
  obtain ⟨x, _, rfl⟩ := hb
  exact x.toNat_lt
theorem strOf_strB8 (s : ByteArray) : strOf (strB s) = s := by
  have h := strOf_bytes (strB_byte8 s)
  have h2 : (strOf (strB s)).data.toList.map UInt8.toNat = s.data.toList.map UInt8.toNat := h
  have h3 : (strOf (strB s)).data.toList = s.data.toList := by
    apply List.ext_getElem
    · have := congrArg List.length h2; simpa using this
    · intro i h1 h4
      have := congrArg (fun l => l[i]?) h2
      simp only [List.getElem?_map, List.getElem?_eq_getElem h1, List.getElem?_eq_getElem h4, Option.map_some, Option.some.injEq] at this
      exact UInt8.toNat_inj.1 this
  exact ByteArray.ext (Array.ext' h3)
theorem strB_inj8 {a b : ByteArray} (h : strB a = strB b) : a = b := by rw [← strOf_strB8 a, h, strOf_strB8]

theorem ofS_snoc {most : Int} {s : ByteArray} : ∀ xs zs : List ByteArray, ofS most zs xs = (0, zs ++ xs) → refS (zs ++ xs) s most = 0 → ofS most zs (xs ++ [s]) = (0, zs ++ (xs ++ [s]))
  | [], zs, _, hr => by
    rw [List.append_nil] at hr
    rw [List.nil_append, ofS, if_pos hr, ofS]
  | y :: ys, zs, h, hr => by
    rw [ofS] at h
    by_cases h0 : refS zs y most = 0
    · rw [if_pos h0] at h
      have h1 : zs ++ (y :: ys) = (zs ++ [y]) ++ ys := by simp
      rw [h1] at h hr
      rw [List.cons_append, ofS, if_pos h0, ofS_snoc ys (zs ++ [y]) h hr]
      simp
    · rw [if_neg h0] at h
      exact absurd (congrArg Prod.fst h) h0

/-- Names that can be added one after the other. -/
structure Good (xs : List ByteArray) : Prop where
  of : ofS 100 [] xs = (0, xs)
  short : ∀ x ∈ xs, x.size ≤ 12
theorem Good.nil : Good [] := ⟨rfl, by simp⟩
theorem Good.snoc {xs : List ByteArray} {s : ByteArray} (h : Good xs) (hr : refS xs s 100 = 0) : Good (xs ++ [s]) := by
  refine ⟨?_, fun x hx => ?_⟩
  · have := ofS_snoc xs [] (by rw [List.nil_append]; exact h.of) (by rw [List.nil_append]; exact hr)
    rwa [List.nil_append] at this
  · rcases List.mem_append.1 hx with h1 | h1
    · exact h.short x h1
    · rw [List.mem_singleton] at h1
      subst h1
      exact (refS_ok hr).1

theorem encL_byte : ∀ (xs : List ByteArray), ∀ b ∈ encL xs, b < 256
  | [], b, hb => by simp [encL] at hb
  | x :: xs, b, hb => by
    rw [encL, List.mem_append, List.mem_append] at hb
    rcases hb with (hb | hb) | hb
    · exact enc_byte _ b hb
    · exact strB_byte8 x b hb
    · exact encL_byte xs b hb
theorem enc8_byte (xs : List ByteArray) : ∀ b ∈ enc xs.length ++ encL xs, b < 256 := fun b hb => (List.mem_append.1 hb).elim (enc_byte _ b) (encL_byte xs b)

theorem encL_inj : ∀ xs ys : List ByteArray, (∀ x ∈ xs, x.size ≤ 12) → (∀ y ∈ ys, y.size ≤ 12) → xs.length = ys.length → encL xs = encL ys → xs = ys
  | [], [], _, _, _, _ => rfl
  | [], _ :: _, _, _, h, _ => by simp at h
  | _ :: _, [], _, _, h, _ => by simp at h
  | x :: xs, y :: ys, hx, hy, hl, h => by
    have h1 := hx x List.mem_cons_self
    have h2 := hy y List.mem_cons_self
    rw [encL, encL, enc_small _ (by omega), enc_small _ (by omega)] at h
    simp only [List.cons_append, List.nil_append, List.cons.injEq] at h
    obtain ⟨e, h⟩ := h
    have hlen : (strB x).length = (strB y).length := by rw [strB_length, strB_length]; exact e
    obtain ⟨e1, e2⟩ := List.append_inj h hlen
    rw [strB_inj8 e1, encL_inj xs ys (fun z hz => hx z (List.mem_cons_of_mem _ hz)) (fun z hz => hy z (List.mem_cons_of_mem _ hz)) (by simpa using hl) e2]
theorem enc8_inj {xs ys : List ByteArray} (hx : ∀ x ∈ xs, x.size ≤ 12) (hy : ∀ y ∈ ys, y.size ≤ 12) (h1 : xs.length ≤ 100) (h2 : ys.length ≤ 100) (h : enc xs.length ++ encL xs = enc ys.length ++ encL ys) : xs = ys := by
  rw [enc_small _ (by omega), enc_small _ (by omega)] at h
  simp only [List.cons_append, List.nil_append, List.cons.injEq] at h
  exact encL_inj xs ys hx hy h.1 h.2

/-- The string of a table's bytes. -/
def str8 (xs : List ByteArray) : ByteArray := strOfNums ((enc xs.length ++ encL xs).map fun n : Nat => (n : Int))
theorem str8_eq {xs ys : List ByteArray} (hx : ∀ x ∈ xs, x.size ≤ 12) (hy : ∀ y ∈ ys, y.size ≤ 12) (h1 : xs.length ≤ 100) (h2 : ys.length ≤ 100) : ((str8 xs).toList == (str8 ys).toList) = decide (xs = ys) := by
  rw [str_eq, Bool.eq_iff_iff, decide_eq_true_iff, decide_eq_true_iff]
  refine ⟨fun h => ?_, fun h => by rw [h]⟩
  exact enc8_inj hx hy h1 h2 ((str_inj (enc8_byte xs) (enc8_byte ys)).1 h)

theorem drewN_add8 (w : World) (j m : Nat) : (w.drewN j).drewN m = w.drewN (j + m) := by simp [World.drewN, Nat.add_assoc]

set_option maxRecDepth 100000 in
set_option maxHeartbeats 1600000 in
theorem sequal_any (v1 v2 : Value) (xs ys : List ByteArray) (w : World) (h1 : Strs w v1 xs) (h2 : Strs w v2 ys) :
    Calls Try.prog 42 #[v1, v2] w fun e w' => e = .returned (.bool (decide (xs = ys))) ∧ ∃ m, w' = w.drewN m := by
  obtain ⟨R, hR⟩ : ∃ R, R = decide (xs = ys) := ⟨_, rfl⟩
  rw [← hR]
  obtain ⟨a1, c1, rfl, hc1, hm1⟩ := h1.form
  obtain ⟨a2, c2, rfl, hc2, hm2⟩ := h2.form
  unfold maxLen at hm1 hm2
  have HR := Lib.hid hR
  clear hR
  by_cases hlen : xs.length = ys.length
  · have H1 := Lib.hid h1; have H2 := Lib.hid h2
    obtain ⟨n, hn⟩ : ∃ n, n = xs.length := ⟨_, rfl⟩
    have hn2 : n = ys.length := by omega
    have hnb : n ≤ 9223372036854775807 := by omega
    rw [← hn] at H1
    rw [← hn2] at H2
    rw [← hn, ← hn2]
    have HN := Lib.hid hn; have HN2 := Lib.hid hn2
    clear h1 h2 hn hn2 hlen hc1 hm1 hc2 hm2
    go_enter Try.func42, Try.ntmps42
    go_wp2_with fail
    go_loopw [13] (fun iv wr => ∃ k : Nat, k ≤ n ∧ iv = .int .i64 k ∧ Hid (∀ j, j < k → xs.getD j ⟨#[]⟩ = ys.getD j ⟨#[]⟩) ∧ Hid (∃ m, wr = w.drewN m)) (fun iv _ => n - (intOf iv).toNat)
    case atStart => exact ⟨0, by omega, rfl, fun j hj => by omega, ⟨0, rfl⟩⟩
    case round =>
      obtain ⟨k, hk, rfl, heq, hdr⟩ := hrel
      have hkw : Hid (Kept (fun _ => False) w wr) := by
        obtain ⟨m, hm⟩ := hdr.out
        rw [hm]; exact (Kept.refl _ _).drewN m
      by_cases hlt : k < n
      · have l1 : (k : Int) < (n : Int) := by omega
        have l0 : (0 : Int) ≤ (k : Int) := by omega
        obtain ⟨g, off, rfl, _, hcell⟩ := (H1.out.kept hkw.out (fun _ _ h => h)).at (k := k) (by have := HN.out; omega)
        obtain ⟨g', off', rfl, _, hcell'⟩ := (H2.out.kept hkw.out (fun _ _ h => h)).at (k := k) (by have := HN2.out; omega)
        obtain ⟨x, hx⟩ : ∃ x, x = xs.getD k ⟨#[]⟩ := ⟨_, rfl⟩
        obtain ⟨y, hy⟩ : ∃ y, y = ys.getD k ⟨#[]⟩ := ⟨_, rfl⟩
        rw [← hx] at hcell
        rw [← hy] at hcell'
        have HX := Lib.hid hx; have HY := Lib.hid hy
        clear hx hy
        by_cases he : x = y
        · have hb : (x.toList == y.toList) = true := by rw [str_eq]; simp [he]
          have heq2 : Hid (∀ j, j < k + 1 → xs.getD j ⟨#[]⟩ = ys.getD j ⟨#[]⟩) := fun j hj => by
            by_cases e : j < k
            · exact heq.out j e
            · obtain rfl : j = k := by omega
              rw [← HX.out, ← HY.out]; exact he
          clear he heq
          go_wp2_with fail
          go_quiet (fail)
          have HD2 : Hid (∃ m, wr.drewN nq = w.drewN m) := by
            obtain ⟨m, hm⟩ := hdr.out
            exact ⟨m + nq, by rw [hm, drewN_add8]⟩
          generalize wr.drewN nq = wd at *
          go_wp2_with fail
          go_roundw
          case rel => first | exact ⟨k + 1, by omega, by go_num, heq2, HD2⟩ | ((repeat apply Exists.intro); exact ⟨⟨k + 1, by omega, by go_num, heq2, HD2⟩, rfl⟩) | ((repeat apply Exists.intro); exact ⟨by omega, by go_num, heq2, HD2⟩)
          case measure => simp [intOf]; omega
        · have hb : (x.toList == y.toList) = false := by rw [str_eq]; simp [he]
          have hrf : R = false := by
            rw [HR.out, decide_eq_false_iff_not]
            intro h
            exact he (by rw [HX.out, HY.out, h])
          clear he heq
          subst hrf
          go_wp2_with fail
          go_quiet (fail)
          have HD2 : Hid (∃ m, wr.drewN nq = w.drewN m) := by
            obtain ⟨m, hm⟩ := hdr.out
            exact ⟨m + nq, by rw [hm, drewN_add8]⟩
          generalize wr.drewN nq = wd at *
          go_wp2_with fail
          go_ret
          exact ⟨rfl, HD2.out⟩
      · obtain rfl : k = n := by omega
        have hrt : R = true := by
          rw [HR.out, decide_eq_true_iff]
          apply List.ext_getElem
          · rw [← HN.out, ← HN2.out]
          · intro i h1 h2
            have := heq.out i (by have := HN.out; omega)
            simpa [List.getD, h1, h2] using this
        clear heq
        subst hrt
        go_wp2_with fail
        go_ret
        exact ⟨rfl, hdr.out⟩
  · have hrf : R = false := by
      rw [HR.out, decide_eq_false_iff_not]
      intro h
      exact hlen (by rw [h])
    have hli : ¬ (xs.length : Int) = (ys.length : Int) := by omega
    have hlb : ((xs.length : Int) == (ys.length : Int)) = false := by simp; omega
    subst hrf
    clear h1 h2
    go_enter Try.func42, Try.ntmps42
    go_wp2_with fail
    go_ret
    exact ⟨rfl, 0, rfl⟩

set_option maxRecDepth 100000 in
set_option maxHeartbeats 800000 in
theorem tequal_any (w : World) (g g' : Nat) (xs ys : List ByteArray) (v v' : Value) (m m' n n' : Nat) (D D' : DataW Unit) (h : TabAt w g xs v m n D) (h' : TabAt w g' ys v' m' n' D') :
    Calls Try.prog 18 #[.pointer (some ⟨g, 0, none⟩), .pointer (some ⟨g', 0, none⟩)] w fun e w' => e = .returned (.bool (decide (xs = ys))) ∧ Kept (fun _ => False) w w' := by
  have c0 := h.c0
  have c0' := h'.c0
  have HE := Lib.hid (fun j : Nat => (sequal_any v v' xs ys (w.drewN j) ((strs_own h.row).kept ((Kept.refl (fun _ => False) w).drewN j) (fun _ _ h => h)) ((strs_own h'.row).kept ((Kept.refl (fun _ => False) w).drewN j) (fun _ _ h => h))).mono (fun e w' (hh : e = .returned (.bool (decide (xs = ys))) ∧ ∃ k, w' = (w.drewN j).drewN k) => (show e = .returned (.bool (decide (xs = ys))) ∧ ∃ k, w' = w.drewN k from ⟨hh.1, by obtain ⟨k, hk⟩ := hh.2; exact ⟨j + k, by rw [hk, drewN_add8]⟩⟩)))
  obtain ⟨a, c, hf, _, _⟩ := (strs_own h.row).form
  obtain ⟨a', c', hf', _, _⟩ := (strs_own h'.row).form
  clear h h'
  generalize decide (xs = ys) = R at *
  generalize xs.length = N at *
  generalize ys.length = N' at *
  subst hf hf'
  go_enter Try.func18, Try.ntmps18
  go_wp2_with fail
  go_quiet ((go_at_call 42; exact HE.out _))
  have HK : Hid (Kept (fun _ => False) w (w.drewN nq)) := (Kept.refl _ _).drewN nq
  generalize w.drewN nq = wd at HK ⊢
  go_wp2_with fail
  go_ret
  exact ⟨rfl, HK.out⟩
end Go.Proofs.Ytmhfbcapmlofbaa
