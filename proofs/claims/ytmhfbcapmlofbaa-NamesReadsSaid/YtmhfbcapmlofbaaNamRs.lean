/-
  arbaclaw08.NamesReads returns true: any bytes are those of a table, or refused.
-/
import Derived.Test.YtmhfbcapmlofbaaNamE
import Derived.Test.YtmhfbcapmlofbaaNamRd
import Derived.Test.YtmhfbcapmlofbaaNamRb
namespace Go.Proofs.Ytmhfbcapmlofbaa
open Go.RowKit
attribute [local go_sem ↓] Go.wp_at_zero Go.wp_at_succ
set_option linter.unusedSimpArgs false

theorem enc_app_inj {n m : Nat} {r s : List Nat} (hn : n < 18446744073709551616) (hm : m < 18446744073709551616) (h : enc n ++ r = enc m ++ s) : n = m ∧ r = s := by
  have h1 := numberS_enc (v := n) r hn
  have h2 := numberS_enc (v := m) s hm
  rw [h, h2] at h1
  have e : m = n := congrArg Prod.fst h1
  subst e
  exact ⟨rfl, List.append_cancel_left h⟩
theorem encL_inj13 : ∀ xs ys : List ByteArray, (∀ x ∈ xs, x.size ≤ 13) → (∀ y ∈ ys, y.size ≤ 13) → xs.length = ys.length → encL xs = encL ys → xs = ys
  | [], [], _, _, _, _ => rfl
  | [], _ :: _, _, _, h, _ => by simp at h
  | _ :: _, [], _, _, h, _ => by simp at h
  | x :: xs, y :: ys, hx, hy, hl, h => by
    have h1 := hx x List.mem_cons_self
    have h2 := hy y List.mem_cons_self
    rw [encL, encL, List.append_assoc, List.append_assoc] at h
    obtain ⟨e, h⟩ := enc_app_inj (by omega) (by omega) h
    have hlen : (strB x).length = (strB y).length := by rw [strB_length, strB_length]; exact e
    obtain ⟨e1, e2⟩ := List.append_inj h hlen
    rw [strB_inj8 e1, encL_inj13 xs ys (fun z hz => hx z (List.mem_cons_of_mem _ hz)) (fun z hz => hy z (List.mem_cons_of_mem _ hz)) (by simpa using hl) e2]
/-- Which lists the bytes of some texts are read as. -/
theorem readS_words {ws : List ByteArray} (hs : ∀ x ∈ ws, x.size ≤ 13) (hl : ws.length ≤ 24) : (ofS 256 [] ws = (0, ws) ∧ readS (enc ws.length ++ encL ws) = some ws) ∨ ((ofS 256 [] ws).1 ≠ 0 ∧ readS (enc ws.length ++ encL ws) = none) := by
  by_cases h : ofS 256 [] ws = (0, ws)
  · exact Or.inl ⟨h, readS_back h⟩
  · have h0 : readS (enc ws.length ++ encL ws) = none := by
      cases e : readS (enc ws.length ++ encL ws) with
      | none => rfl
      | some ys =>
        exfalso
        obtain ⟨h1, h2⟩ := readS_sound (enc8_byte ws) e
        have h3 := ofS_valid ys [] (by rw [List.nil_append]; exact h2)
        have h4 : ys.length ≤ 256 := by
          rcases ofS_len ys [] (by rw [List.nil_append]; exact h2) with h4 | h4
          · omega
          · simpa using h4
        obtain ⟨e1, e2⟩ := enc_app_inj (by omega) (by omega) h1
        have := encL_inj13 ws ys hs (fun y hy => by have := h3 y hy; omega) e1 e2
        rw [← this] at h2
        exact h h2
    have hq : ∀ ys xs : List ByteArray, (ofS 256 xs ys).1 = 0 → ofS 256 xs ys = (0, xs ++ ys) := by
      intro ys
      induction ys with
      | nil => intro xs _; simp [ofS]
      | cons y ys ih =>
        intro xs h
        rw [ofS] at h ⊢
        by_cases h0 : refS xs y 256 = 0
        · rw [if_pos h0] at h ⊢
          rw [ih _ h]; simp
        · rw [if_neg h0] at h
          exact absurd h h0
    exact Or.inr ⟨fun e => h (by have := hq ws [] e; rwa [List.nil_append] at this), h0⟩

theorem Reads.takeV8 {w : World} {xs : List Nat} {a : Option Addr} {c : Nat} (n : Nat) (h : Reads w (.slice a xs.length c) xs) (hn : n ≤ xs.length) : Reads w (.slice a n c) (xs.take n) := by
  rcases h with ⟨h, rfl⟩ | ⟨g, off, cap, h, h1, h2, h3, h4⟩
  · cases h
    have : n = 0 := by simpa using hn
    subst this
    exact Or.inl ⟨rfl, rfl⟩
  · cases h
    exact Reads.take n (Or.inr ⟨g, off, c, rfl, h1, h2, h3, h4⟩) hn

set_option maxRecDepth 100000 in
set_option maxHeartbeats 12800000 in
theorem reads8_any (a b : Option Addr) (la ca lb cb : Nat) (na nb : List Nat) (w : World) (ha : InBytes w (.slice a la ca) na) (hb : InBytes w (.slice b lb cb) nb) :
    Calls Try.prog 5 #[.slice a la ca, .slice b lb cb] w fun e w' => e = .returned (.bool true) ∧ Kept (fun _ => False) w w' := by
  obtain ⟨a', c', hf, hcl, hcm⟩ : ∃ a' c', Value.slice a la ca = .slice a' na.length c' ∧ na.length ≤ c' ∧ c' ≤ maxLen := by
    rcases ha.reads with ⟨h, h2⟩ | ⟨g, off, cap, h, h1, h2, _⟩
    · exact ⟨none, 0, by rw [h, h2]; rfl, by rw [h2]; exact Nat.le_refl _, Nat.zero_le _⟩
    · exact ⟨_, _, h, h1, h2⟩
  injection hf with e1 e2 e3
  subst e1 e3
  unfold maxLen at hcm
  have HRP0 := Lib.hid ha.reads; have HBA := Lib.hid ha.byte
  have HB := Lib.hid hb
  obtain ⟨n, hn⟩ : ∃ n, n = min la 200 := ⟨_, rfl⟩
  have hmi : min (la : Int) 200 = (n : Int) := by omega
  have n0 : (0 : Int) ≤ (n : Int) := by omega
  have n1 : (n : Int) ≤ (ca : Int) := by omega
  have n2 : n ≤ ca := by omega
  have n3 : (n : Int) ≤ (la : Int) := by omega
  have hn200 : n ≤ 200 := by omega
  have hpl : (na.take n).length ≤ 200 := by rw [List.length_take]; omega
  have hPT : Hid (∀ W, Reads W (.slice a la ca) na → Reads W (.slice a n ca) (na.take n)) := fun W h => by
    rw [e2] at h
    exact h.takeV8 n (by omega)
  have HPL := Lib.hid hpl
  have HPB : Hid (∀ x ∈ na.take n, x < 256) := fun x hx => HBA.out x (List.mem_of_mem_take hx)
  clear ha hb e2 hn hcl hpl
  generalize na.take n = P at hPT HPL HPB
  have hRP : Hid (∀ v W, Reads W v P → (convert 28 9 v).run Try.prog W = .ok (.string (strOfNums (P.map fun n : Nat => (n : Int)))) W) := fun v W h => reads_str h
  generalize strOfNums (P.map fun n : Nat => (n : Int)) = SP at hRP
  go_enter Try.func5, Try.ntmps5
  go_wp2_with fail
  refine (awake8_any w).mono ?_
  rintro e w0 ⟨rfl, k0⟩
  have K0 := Lib.hid k0
  clear k0
  have HRD := Lib.hid (nread_any _ P w0 (hPT.out w0 (HRP0.out.kept K0.out (fun _ _ h => h))) HPB.out (by have := HPL.out; omega))
  go_wp2_with fail
  refine HRD.out.mono ?_
  rintro e w1 (⟨_, rfl, k1⟩ | ⟨xs, g1, hxs, rfl, hof⟩)
  · have K1 := Lib.hid (K0.out.then k1)
    have K1d := Lib.hid K1.out.drew
    clear k1 HRD
    go_wp2_with fail
    refine wp_region_any (by kernel_rfl) ?_
    try (change wpAny _ _ _ _ _ _ _ (World.drew _))
    refine wpAny_take (i := 0) (v := .int .i64 6) rfl (by kernel_rfl) (by kernel_rfl) (by kernel_rfl) (fun _ _ _ h => h) (Or.inl ⟨by simp [Region.wanted, yielded], fun W => by go_simp⟩) ?_
    try (simp only [Act.put, List.getElem_toArray, List.getElem_cons_succ, List.getElem_cons_zero, List.setIfInBounds_toArray, List.set_cons_zero, List.set_cons_succ])
    refine wpAny_take (i := 1) (v := .bool false) rfl (by kernel_rfl) (by kernel_rfl) (by kernel_rfl) (fun _ _ _ h => h) (Or.inl ⟨by simp [Region.wanted, yielded], fun W => by go_simp⟩) ?_
    try (simp only [Act.put, List.getElem_toArray, List.getElem_cons_succ, List.getElem_cons_zero, List.setIfInBounds_toArray, List.set_cons_zero, List.set_cons_succ])
    refine wpAny_take (i := 2) (v := .bool false) rfl (by kernel_rfl) (by kernel_rfl) (by kernel_rfl) (fun _ _ _ h => h) (Or.inl ⟨by simp [Region.wanted, yielded], fun W => by go_simp⟩) ?_
    try (simp only [Act.put, List.getElem_toArray, List.getElem_cons_succ, List.getElem_cons_zero, List.setIfInBounds_toArray, List.set_cons_zero, List.set_cons_succ])
    refine wpAny_take (i := 3) (v := undef) rfl (by kernel_rfl) (by kernel_rfl) (by kernel_rfl) (fun _ _ _ h => h) (Or.inr ⟨by first | (simp [Region.wanted, yielded]; done) | (simp [Region.wanted, yielded, undef]; done), rfl⟩) ?_
    try (simp only [Act.put, List.getElem_toArray, List.getElem_cons_succ, List.getElem_cons_zero, List.setIfInBounds_toArray, List.set_cons_zero, List.set_cons_succ])
    refine wpAny_take (i := 4) (v := undef) rfl (by kernel_rfl) (by kernel_rfl) (by kernel_rfl) (fun _ _ _ h => h) (Or.inr ⟨by first | (simp [Region.wanted, yielded]; done) | (simp [Region.wanted, yielded, undef]; done), rfl⟩) ?_
    try (simp only [Act.put, List.getElem_toArray, List.getElem_cons_succ, List.getElem_cons_zero, List.setIfInBounds_toArray, List.set_cons_zero, List.set_cons_succ])
    refine wpAny_take (i := 5) (v := undef) rfl (by kernel_rfl) (by kernel_rfl) (by kernel_rfl) (fun _ _ _ h => h) (Or.inr ⟨by first | (simp [Region.wanted, yielded]; done) | (simp [Region.wanted, yielded, undef]; done), rfl⟩) ?_
    try (simp only [Act.put, List.getElem_toArray, List.getElem_cons_succ, List.getElem_cons_zero, List.setIfInBounds_toArray, List.set_cons_zero, List.set_cons_succ])
    refine wpAny_take (i := 6) (v := undef) rfl (by kernel_rfl) (by kernel_rfl) (by kernel_rfl) (fun _ _ _ h => h) (Or.inr ⟨by first | (simp [Region.wanted, yielded]; done) | (simp [Region.wanted, yielded, undef]; done), rfl⟩) ?_
    try (simp only [Act.put, List.getElem_toArray, List.getElem_cons_succ, List.getElem_cons_zero, List.setIfInBounds_toArray, List.set_cons_zero, List.set_cons_succ])
    refine wpAny_take (i := 7) (v := undef) rfl (by kernel_rfl) (by kernel_rfl) (by kernel_rfl) (fun _ _ _ h => h) (Or.inr ⟨by first | (simp [Region.wanted, yielded]; done) | (simp [Region.wanted, yielded, undef]; done), rfl⟩) ?_
    try (simp only [Act.put, List.getElem_toArray, List.getElem_cons_succ, List.getElem_cons_zero, List.setIfInBounds_toArray, List.set_cons_zero, List.set_cons_succ])
    refine wpAny_take (i := 8) (v := undef) rfl (by kernel_rfl) (by kernel_rfl) (by kernel_rfl) (fun _ _ _ h => h) (Or.inr ⟨by first | (simp [Region.wanted, yielded]; done) | (simp [Region.wanted, yielded, undef]; done), rfl⟩) ?_
    try (simp only [Act.put, List.getElem_toArray, List.getElem_cons_succ, List.getElem_cons_zero, List.setIfInBounds_toArray, List.set_cons_zero, List.set_cons_succ])
    refine wpAny_take (i := 9) (v := undef) rfl (by kernel_rfl) (by kernel_rfl) (by kernel_rfl) (fun _ _ _ h => h) (Or.inr ⟨by first | (simp [Region.wanted, yielded]; done) | (simp [Region.wanted, yielded, undef]; done), rfl⟩) ?_
    try (simp only [Act.put, List.getElem_toArray, List.getElem_cons_succ, List.getElem_cons_zero, List.setIfInBounds_toArray, List.set_cons_zero, List.set_cons_succ])
    refine wpAny_take (i := 10) (v := undef) rfl (by kernel_rfl) (by kernel_rfl) (by kernel_rfl) (fun _ _ _ h => h) (Or.inr ⟨by first | (simp [Region.wanted, yielded]; done) | (simp [Region.wanted, yielded, undef]; done), rfl⟩) ?_
    try (simp only [Act.put, List.getElem_toArray, List.getElem_cons_succ, List.getElem_cons_zero, List.setIfInBounds_toArray, List.set_cons_zero, List.set_cons_succ])
    refine wpAny_take (i := 11) (v := undef) rfl (by kernel_rfl) (by kernel_rfl) (by kernel_rfl) (fun _ _ _ h => h) (Or.inr ⟨by first | (simp [Region.wanted, yielded]; done) | (simp [Region.wanted, yielded, undef]; done), rfl⟩) ?_
    try (simp only [Act.put, List.getElem_toArray, List.getElem_cons_succ, List.getElem_cons_zero, List.setIfInBounds_toArray, List.set_cons_zero, List.set_cons_succ])
    refine wpAny_take (i := 12) (v := undef) rfl (by kernel_rfl) (by kernel_rfl) (by kernel_rfl) (fun _ _ _ h => h) (Or.inr ⟨by first | (simp [Region.wanted, yielded]; done) | (simp [Region.wanted, yielded, undef]; done), rfl⟩) ?_
    try (simp only [Act.put, List.getElem_toArray, List.getElem_cons_succ, List.getElem_cons_zero, List.setIfInBounds_toArray, List.set_cons_zero, List.set_cons_succ])
    refine wpAny_take (i := 13) (v := .bool false) rfl (by kernel_rfl) (by kernel_rfl) (by kernel_rfl) (fun _ _ _ h => h) (Or.inl ⟨by simp [Region.wanted, yielded], fun W => by go_simp⟩) ?_
    try (simp only [Act.put, List.getElem_toArray, List.getElem_cons_succ, List.getElem_cons_zero, List.setIfInBounds_toArray, List.set_cons_zero, List.set_cons_succ])
    refine wpAny_take (i := 14) (v := .bool false) rfl (by kernel_rfl) (by kernel_rfl) (by kernel_rfl) (fun _ _ _ h => h) (Or.inl ⟨by simp [Region.wanted, yielded], fun W => by go_simp⟩) ?_
    try (simp only [Act.put, List.getElem_toArray, List.getElem_cons_succ, List.getElem_cons_zero, List.setIfInBounds_toArray, List.set_cons_zero, List.set_cons_succ])
    refine wpAny_take (i := 15) (v := .int .i64 6) rfl (by kernel_rfl) (by kernel_rfl) (by kernel_rfl) (fun _ _ _ h => h) (Or.inl ⟨by simp [Region.wanted, yielded], fun W => by go_simp⟩) ?_
    try (simp only [Act.put, List.getElem_toArray, List.getElem_cons_succ, List.getElem_cons_zero, List.setIfInBounds_toArray, List.set_cons_zero, List.set_cons_succ])
    refine wpAny_take (i := 16) (v := .bool true) rfl (by kernel_rfl) (by kernel_rfl) (by kernel_rfl) (fun _ _ _ h => h) (Or.inl ⟨by simp [Region.wanted, yielded], fun W => by go_simp⟩) ?_
    try (simp only [Act.put, List.getElem_toArray, List.getElem_cons_succ, List.getElem_cons_zero, List.setIfInBounds_toArray, List.set_cons_zero, List.set_cons_succ])
    refine wpAny_take (i := 17) (v := .bool true) rfl (by kernel_rfl) (by kernel_rfl) (by kernel_rfl) (fun _ _ _ h => h) (Or.inl ⟨by simp [Region.wanted, yielded], fun W => by go_simp⟩) ?_
    try (simp only [Act.put, List.getElem_toArray, List.getElem_cons_succ, List.getElem_cons_zero, List.setIfInBounds_toArray, List.set_cons_zero, List.set_cons_succ])
    refine wpAny_take (i := 18) (v := .int .i64 6) rfl (by kernel_rfl) (by kernel_rfl) (by kernel_rfl) (fun _ _ _ h => h) (Or.inl ⟨by simp [Region.wanted, yielded], fun W => by go_simp⟩) ?_
    try (simp only [Act.put, List.getElem_toArray, List.getElem_cons_succ, List.getElem_cons_zero, List.setIfInBounds_toArray, List.set_cons_zero, List.set_cons_succ])
    refine wpAny_take (i := 19) (v := .bool false) rfl (by kernel_rfl) (by kernel_rfl) (by kernel_rfl) (fun _ _ _ h => h) (Or.inl ⟨by simp [Region.wanted, yielded], fun W => by go_simp⟩) ?_
    try (simp only [Act.put, List.getElem_toArray, List.getElem_cons_succ, List.getElem_cons_zero, List.setIfInBounds_toArray, List.set_cons_zero, List.set_cons_succ])
    refine wpAny_take (i := 20) (v := .bool false) rfl (by kernel_rfl) (by kernel_rfl) (by kernel_rfl) (fun _ _ _ h => h) (Or.inl ⟨by simp [Region.wanted, yielded], fun W => by go_simp⟩) ?_
    try (simp only [Act.put, List.getElem_toArray, List.getElem_cons_succ, List.getElem_cons_zero, List.setIfInBounds_toArray, List.set_cons_zero, List.set_cons_succ])
    refine wpAny_take (i := 21) (v := .pointer none) rfl (by kernel_rfl) (by kernel_rfl) (by kernel_rfl) (fun _ _ _ h => h) (Or.inl ⟨by simp [Region.wanted, yielded], fun W => by go_simp⟩) ?_
    try (simp only [Act.put, List.getElem_toArray, List.getElem_cons_succ, List.getElem_cons_zero, List.setIfInBounds_toArray, List.set_cons_zero, List.set_cons_succ])
    refine wpAny_take (i := 22) (v := .bool false) rfl (by kernel_rfl) (by kernel_rfl) (by kernel_rfl) (fun _ _ _ h => h) (Or.inl ⟨by simp [Region.wanted, yielded], fun W => by go_simp⟩) ?_
    try (simp only [Act.put, List.getElem_toArray, List.getElem_cons_succ, List.getElem_cons_zero, List.setIfInBounds_toArray, List.set_cons_zero, List.set_cons_succ])
    refine wpAny_take (i := 23) (v := .bool false) rfl (by kernel_rfl) (by kernel_rfl) (by kernel_rfl) (fun _ _ _ h => h) (Or.inl ⟨by simp [Region.wanted, yielded], fun W => by go_simp⟩) ?_
    try (simp only [Act.put, List.getElem_toArray, List.getElem_cons_succ, List.getElem_cons_zero, List.setIfInBounds_toArray, List.set_cons_zero, List.set_cons_succ])
    refine wpAny_take (i := 24) (v := .bool false) rfl (by kernel_rfl) (by kernel_rfl) (by kernel_rfl) (fun _ _ _ h => h) (Or.inl ⟨by simp [Region.wanted, yielded], fun W => by go_simp⟩) ?_
    try (simp only [Act.put, List.getElem_toArray, List.getElem_cons_succ, List.getElem_cons_zero, List.setIfInBounds_toArray, List.set_cons_zero, List.set_cons_succ])
    refine wpAny_take (i := 25) (v := .bool false) rfl (by kernel_rfl) (by kernel_rfl) (by kernel_rfl) (fun _ _ _ h => h) (Or.inl ⟨by simp [Region.wanted, yielded], fun W => by go_simp⟩) ?_
    try (simp only [Act.put, List.getElem_toArray, List.getElem_cons_succ, List.getElem_cons_zero, List.setIfInBounds_toArray, List.set_cons_zero, List.set_cons_succ])
    refine wpAny_done (by kernel_rfl) ?_ _
    generalize w1.drew = w2 at K1d ⊢
    clear hmi n0 n1 n2 n3
    go_wp2_with fail
    have hin2 := HB.out.reads.kept K1d.out (fun _ _ h => h)
    refine (words8_any b lb cb nb w2 ⟨hin2, HB.out.byte⟩).mono ?_
    rintro e w20 ⟨yv, rfl, hwd⟩
    obtain ⟨ya2, yc2, hyf, _, hym⟩ := (strs_own hwd.row).form
    have hyl2 : (textsOf (nb.take 24)).length ≤ 24 := by rw [textsOf_length, List.length_take]; omega
    have HY2 := Lib.hid (strs_own hwd.row)
    have K20 := Lib.hid (K1d.out.then hwd.kept)
    have hsh2 := textsOf_short (nb.take 24)
    subst hyf
    clear hin2 hwd hym
    generalize textsOf (nb.take 24) = ws at HY2 hyl2 hsh2 ⊢
    have HSH := Lib.hid hsh2
    have hcs := readS_words hsh2 hyl2
    have HBY := Lib.hid (rbytes8_any _ ws w20 HY2.out hsh2 (by omega))
    have hel := encL_len1 ws hsh2
    have hen := enc_len (v := ws.length) (by omega)
    have HRDW := Lib.hid (fun (W : World) (v : Value) (h : Reads W v (enc ws.length ++ encL ws)) => nread_any v (enc ws.length ++ encL ws) W h (enc8_byte ws) (by rw [List.length_append]; omega))
    generalize enc ws.length ++ encL ws = E at hcs HBY HRDW
    obtain ⟨Y, hY⟩ : ∃ Y, Y = ws.length := ⟨_, rfl⟩
    rw [← hY] at HY2 hyl2 HBY ⊢
    clear hY hsh2 hel hen
    go_wp2_with fail
    refine HBY.out.mono ?_
    rintro e w21 ⟨v21, rfl, f21, k21⟩
    have K21 := Lib.hid (K20.out.then k21)
    have HY21 := Lib.hid (HY2.out.kept k21 (fun _ _ h => h))
    have R21 := Lib.hid f21.reads
    clear f21 k21 HBY
    go_wp2_with fail
    have HRX := Lib.hid (HRDW.out w21 v21 R21.out)
    clear HRDW R21
    rcases hcs with ⟨ho, hr⟩ | ⟨ho, hr⟩
    · have HO := Lib.hid ho; have HR := Lib.hid hr
      clear ho hr
      refine HRX.out.mono ?_
      rintro e w22 (⟨hn, _⟩ | ⟨ys, g22, hys, rfl, hof⟩)
      · rw [HR.out] at hn
        cases hn
      obtain rfl : ws = ys := by
        rw [HR.out] at hys
        exact Option.some.inj hys
      have K22 := Lib.hid (K21.out.then hof.kept)
      have HY22 := Lib.hid (HY21.out.kept hof.kept (fun _ _ h => h))
      obtain ⟨t2v, t2m, t2n, t2D, ht2, _, _⟩ := hof.tab
      have HT2 := Lib.hid ht2
      clear ht2 hof hys
      go_wp2_with fail
      refine (rof_any _ ws 256 w22 HY22.out).mono ?_
      rintro e w23 (⟨h1, _⟩ | ⟨_, v23, rfl, hwd⟩)
      · exact absurd (by rw [HO.out]) h1
      have K23 := Lib.hid (K22.out.then hwd.kept)
      have HY23 := Lib.hid (HY22.out.kept hwd.kept (fun _ _ h => h))
      have HT23 := Lib.hid (HT2.out.stay hwd.kept)
      clear hwd HT2 HY22
      go_wp2_with fail
      refine (tnames_any w23 g22 ws t2v t2m t2n t2D HT23.out).mono ?_
      rintro e w24 ⟨v24, rfl, hown, k24⟩
      have K24 := Lib.hid (K23.out.then k24)
      have HO24 := Lib.hid (strs_own hown)
      have HY24 := Lib.hid (HY23.out.kept k24 (fun _ _ h => h))
      clear hown k24
      go_wp2_with fail
      refine (rsame8_any v24 _ ws ws w24 HO24.out HY24.out).mono ?_
      rw [show decide (ws = ws) = true by simp]
      rintro e w25 ⟨rfl, k25⟩
      have K25 := Lib.hid (K24.out.then k25)
      clear k25
      go_wp2_with fail
      go_ret
      exact ⟨rfl, K25.out⟩
    · have HO := Lib.hid ho; have HR := Lib.hid hr
      clear ho hr
      refine HRX.out.mono ?_
      rintro e w22 (⟨_, rfl, k22⟩ | ⟨ys, g22, hys, _⟩)
      · have K22 := Lib.hid (K21.out.then k22)
        have HRF := Lib.hid (rof_any _ ws 256 w22 (HY21.out.kept k22 (fun _ _ h => h)))
        clear k22
        have hb : ofS 256 [] ws ≠ (0, ws) := fun e => HO.out (by rw [e])
        have HBN := Lib.hid hb
        clear hb
        obtain ⟨R, hR⟩ : ∃ R, R = (ofS 256 [] ws).1 := ⟨_, rfl⟩
        rw [← hR] at HO HRF
        have hne := HO.out
        clear hR
        go_wp2_with fail
        refine HRF.out.mono ?_
        rintro e w23 (⟨_, rfl, k23⟩ | ⟨h0, _⟩)
        · have K23 := Lib.hid (K22.out.then k23)
          clear k23
          go_wp2_with fail
          go_ret
          exact ⟨rfl, K23.out⟩
        · exact absurd h0 HBN.out
      · rw [HR.out] at hys
        cases hys
  · have K1 := Lib.hid (K0.out.then hof.kept)
    have K1d := Lib.hid K1.out.drew
    obtain ⟨t1v, t1m, t1n, t1D, ht1, _, _⟩ := hof.tab
    have hso := (readS_sound HPB.out hxs).1
    have HB1 := Lib.hid (tbytes_any w1.drew g1 xs t1v t1m t1n t1D (ht1.stay (Kept.refl _ _).drew))
    rw [← hso] at HB1
    have p1 := hRP.out _ w1.drew (hPT.out w1.drew (HRP0.out.kept K1d.out (fun _ _ h => h)))
    clear ht1 hof hxs hso HRD
    go_wp2_with fail
    refine wp_region_any (by kernel_rfl) ?_
    try (change wpAny _ _ _ _ _ _ _ (World.drew _))
    refine wpAny_take (i := 0) (v := .int .i64 0) rfl (by kernel_rfl) (by kernel_rfl) (by kernel_rfl) (fun _ _ _ h => h) (Or.inl ⟨by simp [Region.wanted, yielded], fun W => by go_simp⟩) ?_
    try (simp only [Act.put, List.getElem_toArray, List.getElem_cons_succ, List.getElem_cons_zero, List.setIfInBounds_toArray, List.set_cons_zero, List.set_cons_succ])
    refine wpAny_take (i := 1) (v := .bool true) rfl (by kernel_rfl) (by kernel_rfl) (by kernel_rfl) (fun _ _ _ h => h) (Or.inl ⟨by simp [Region.wanted, yielded], fun W => by go_simp⟩) ?_
    try (simp only [Act.put, List.getElem_toArray, List.getElem_cons_succ, List.getElem_cons_zero, List.setIfInBounds_toArray, List.set_cons_zero, List.set_cons_succ])
    refine wpAny_take (i := 2) (v := .bool true) rfl (by kernel_rfl) (by kernel_rfl) (by kernel_rfl) (fun _ _ _ h => h) (Or.inl ⟨by simp [Region.wanted, yielded], fun W => by go_simp⟩) ?_
    try (simp only [Act.put, List.getElem_toArray, List.getElem_cons_succ, List.getElem_cons_zero, List.setIfInBounds_toArray, List.set_cons_zero, List.set_cons_succ])
    refine wpAny_take (i := 3) (v := .pointer (some ⟨g1, 0, none⟩)) rfl (by kernel_rfl) (by kernel_rfl) (by kernel_rfl) (fun _ _ _ h => h) (Or.inl ⟨by simp [Region.wanted, yielded], fun W => by go_simp⟩) ?_
    try (simp only [Act.put, List.getElem_toArray, List.getElem_cons_succ, List.getElem_cons_zero, List.setIfInBounds_toArray, List.set_cons_zero, List.set_cons_succ])
    refine wpAny_take (i := 6) (v := .slice a la ca) rfl (by kernel_rfl) (by kernel_rfl) (by kernel_rfl) (fun _ _ _ h => h) (Or.inl ⟨by simp [Region.wanted, yielded], fun W => by go_simp⟩) ?_
    try (simp only [Act.put, List.getElem_toArray, List.getElem_cons_succ, List.getElem_cons_zero, List.setIfInBounds_toArray, List.set_cons_zero, List.set_cons_succ])
    refine wpAny_take (i := 7) (v := .slice a la ca) rfl (by kernel_rfl) (by kernel_rfl) (by kernel_rfl) (fun _ _ _ h => h) (Or.inl ⟨by simp [Region.wanted, yielded], fun W => by go_simp⟩) ?_
    try (simp only [Act.put, List.getElem_toArray, List.getElem_cons_succ, List.getElem_cons_zero, List.setIfInBounds_toArray, List.set_cons_zero, List.set_cons_succ])
    refine wpAny_take (i := 8) (v := .int .i64 la) rfl (by kernel_rfl) (by kernel_rfl) (by kernel_rfl) (fun _ _ _ h => h) (Or.inl ⟨by simp [Region.wanted, yielded], fun W => by go_simp⟩) ?_
    try (simp only [Act.put, List.getElem_toArray, List.getElem_cons_succ, List.getElem_cons_zero, List.setIfInBounds_toArray, List.set_cons_zero, List.set_cons_succ])
    refine wpAny_take (i := 9) (v := .int .i64 n) rfl (by kernel_rfl) (by kernel_rfl) (by kernel_rfl) (fun _ _ _ h => h) (Or.inl ⟨by simp [Region.wanted, yielded], fun W => by go_simp⟩) ?_
    try (simp only [Act.put, List.getElem_toArray, List.getElem_cons_succ, List.getElem_cons_zero, List.setIfInBounds_toArray, List.set_cons_zero, List.set_cons_succ])
    refine wpAny_take (i := 10) (v := .slice a n ca) rfl (by kernel_rfl) (by kernel_rfl) (by kernel_rfl) (fun _ _ _ h => h) (Or.inl ⟨by simp [Region.wanted, yielded], fun W => by go_simp⟩) ?_
    try (simp only [Act.put, List.getElem_toArray, List.getElem_cons_succ, List.getElem_cons_zero, List.setIfInBounds_toArray, List.set_cons_zero, List.set_cons_succ])
    refine wpAny_ready (rs := [4, 11]) (by kernel_rfl) (by simp) ?_
    refine AllReady.cons (o := _) rfl (fun K hK => ?_) (AllReady.cons (o := _) rfl (fun K hK => ?_) AllReady.nil)
    · rw [if_pos (by simp [Region.wanted, yielded])]
      go_simp
      go_at_call 15
      refine (HB1.out).mono ?_
      rintro e w2 ⟨v2, rfl, f2, k2⟩; have K2 := Lib.hid (K1d.out.then k2); have c2 := hRP.out v2 w2 f2.reads; have p2 := hRP.out _ w2 (hPT.out w2 (HRP0.out.kept K2.out (fun _ _ h => h))); clear f2 k2
      go_wp2_with fail
      try (refine hK _ _ ?_)
      try (clear hK K)
      try (simp only [Act.put, List.getElem_toArray, List.getElem_cons_succ, List.getElem_cons_zero, List.setIfInBounds_toArray, List.set_cons_zero, List.set_cons_succ])
      refine wpAny_ready (rs := [5, 11]) (by kernel_rfl) (by simp) ?_
      refine AllReady.cons (o := _) rfl (fun K hK => ?_) (AllReady.cons (o := _) rfl (fun K hK => ?_) AllReady.nil)
      · rw [if_pos (by simp [Region.wanted, yielded])]
        go_simp
        try (refine hK _ _ ?_)
        try (clear hK K)
        try (simp only [Act.put, List.getElem_toArray, List.getElem_cons_succ, List.getElem_cons_zero, List.setIfInBounds_toArray, List.set_cons_zero, List.set_cons_succ])
        refine wpAny_ready (rs := [11]) (by kernel_rfl) (by simp) ?_
        refine AllReady.cons (o := _) rfl (fun K hK => ?_) AllReady.nil
        rw [if_pos (by simp [Region.wanted, yielded])]
        go_simp
        try (refine hK _ _ ?_)
        try (clear hK K)
        try (simp only [Act.put, List.getElem_toArray, List.getElem_cons_succ, List.getElem_cons_zero, List.setIfInBounds_toArray, List.set_cons_zero, List.set_cons_succ])
        refine wpAny_take (i := 12) (v := .bool false) rfl (by kernel_rfl) (by kernel_rfl) (by kernel_rfl) (fun _ _ _ h => h) (Or.inl ⟨by simp [Region.wanted, yielded], fun W => by go_simp⟩) ?_
        try (simp only [Act.put, List.getElem_toArray, List.getElem_cons_succ, List.getElem_cons_zero, List.setIfInBounds_toArray, List.set_cons_zero, List.set_cons_succ])
        refine wpAny_take (i := 13) (v := .bool false) rfl (by kernel_rfl) (by kernel_rfl) (by kernel_rfl) (fun _ _ _ h => h) (Or.inl ⟨by simp [Region.wanted, yielded], fun W => by go_simp⟩) ?_
        try (simp only [Act.put, List.getElem_toArray, List.getElem_cons_succ, List.getElem_cons_zero, List.setIfInBounds_toArray, List.set_cons_zero, List.set_cons_succ])
        refine wpAny_take (i := 14) (v := .bool false) rfl (by kernel_rfl) (by kernel_rfl) (by kernel_rfl) (fun _ _ _ h => h) (Or.inl ⟨by simp [Region.wanted, yielded], fun W => by go_simp⟩) ?_
        try (simp only [Act.put, List.getElem_toArray, List.getElem_cons_succ, List.getElem_cons_zero, List.setIfInBounds_toArray, List.set_cons_zero, List.set_cons_succ])
        refine wpAny_take (i := 15) (v := .int .i64 0) rfl (by kernel_rfl) (by kernel_rfl) (by kernel_rfl) (fun _ _ _ h => h) (Or.inl ⟨by simp [Region.wanted, yielded], fun W => by go_simp⟩) ?_
        try (simp only [Act.put, List.getElem_toArray, List.getElem_cons_succ, List.getElem_cons_zero, List.setIfInBounds_toArray, List.set_cons_zero, List.set_cons_succ])
        refine wpAny_take (i := 16) (v := .bool false) rfl (by kernel_rfl) (by kernel_rfl) (by kernel_rfl) (fun _ _ _ h => h) (Or.inl ⟨by simp [Region.wanted, yielded], fun W => by go_simp⟩) ?_
        try (simp only [Act.put, List.getElem_toArray, List.getElem_cons_succ, List.getElem_cons_zero, List.setIfInBounds_toArray, List.set_cons_zero, List.set_cons_succ])
        refine wpAny_take (i := 17) (v := .bool false) rfl (by kernel_rfl) (by kernel_rfl) (by kernel_rfl) (fun _ _ _ h => h) (Or.inl ⟨by simp [Region.wanted, yielded], fun W => by go_simp⟩) ?_
        try (simp only [Act.put, List.getElem_toArray, List.getElem_cons_succ, List.getElem_cons_zero, List.setIfInBounds_toArray, List.set_cons_zero, List.set_cons_succ])
        refine wpAny_take (i := 18) (v := undef) rfl (by kernel_rfl) (by kernel_rfl) (by kernel_rfl) (fun _ _ _ h => h) (Or.inr ⟨by first | (simp [Region.wanted, yielded]; done) | (simp [Region.wanted, yielded, undef]; done), rfl⟩) ?_
        try (simp only [Act.put, List.getElem_toArray, List.getElem_cons_succ, List.getElem_cons_zero, List.setIfInBounds_toArray, List.set_cons_zero, List.set_cons_succ])
        refine wpAny_take (i := 19) (v := undef) rfl (by kernel_rfl) (by kernel_rfl) (by kernel_rfl) (fun _ _ _ h => h) (Or.inr ⟨by first | (simp [Region.wanted, yielded]; done) | (simp [Region.wanted, yielded, undef]; done), rfl⟩) ?_
        try (simp only [Act.put, List.getElem_toArray, List.getElem_cons_succ, List.getElem_cons_zero, List.setIfInBounds_toArray, List.set_cons_zero, List.set_cons_succ])
        refine wpAny_take (i := 20) (v := undef) rfl (by kernel_rfl) (by kernel_rfl) (by kernel_rfl) (fun _ _ _ h => h) (Or.inr ⟨by first | (simp [Region.wanted, yielded]; done) | (simp [Region.wanted, yielded, undef]; done), rfl⟩) ?_
        try (simp only [Act.put, List.getElem_toArray, List.getElem_cons_succ, List.getElem_cons_zero, List.setIfInBounds_toArray, List.set_cons_zero, List.set_cons_succ])
        refine wpAny_take (i := 21) (v := undef) rfl (by kernel_rfl) (by kernel_rfl) (by kernel_rfl) (fun _ _ _ h => h) (Or.inr ⟨by first | (simp [Region.wanted, yielded]; done) | (simp [Region.wanted, yielded, undef]; done), rfl⟩) ?_
        try (simp only [Act.put, List.getElem_toArray, List.getElem_cons_succ, List.getElem_cons_zero, List.setIfInBounds_toArray, List.set_cons_zero, List.set_cons_succ])
        refine wpAny_take (i := 22) (v := undef) rfl (by kernel_rfl) (by kernel_rfl) (by kernel_rfl) (fun _ _ _ h => h) (Or.inr ⟨by first | (simp [Region.wanted, yielded]; done) | (simp [Region.wanted, yielded, undef]; done), rfl⟩) ?_
        try (simp only [Act.put, List.getElem_toArray, List.getElem_cons_succ, List.getElem_cons_zero, List.setIfInBounds_toArray, List.set_cons_zero, List.set_cons_succ])
        refine wpAny_take (i := 23) (v := undef) rfl (by kernel_rfl) (by kernel_rfl) (by kernel_rfl) (fun _ _ _ h => h) (Or.inr ⟨by first | (simp [Region.wanted, yielded]; done) | (simp [Region.wanted, yielded, undef]; done), rfl⟩) ?_
        try (simp only [Act.put, List.getElem_toArray, List.getElem_cons_succ, List.getElem_cons_zero, List.setIfInBounds_toArray, List.set_cons_zero, List.set_cons_succ])
        refine wpAny_take (i := 24) (v := .bool false) rfl (by kernel_rfl) (by kernel_rfl) (by kernel_rfl) (fun _ _ _ h => h) (Or.inl ⟨by simp [Region.wanted, yielded], fun W => by go_simp⟩) ?_
        try (simp only [Act.put, List.getElem_toArray, List.getElem_cons_succ, List.getElem_cons_zero, List.setIfInBounds_toArray, List.set_cons_zero, List.set_cons_succ])
        refine wpAny_take (i := 25) (v := .bool false) rfl (by kernel_rfl) (by kernel_rfl) (by kernel_rfl) (fun _ _ _ h => h) (Or.inl ⟨by simp [Region.wanted, yielded], fun W => by go_simp⟩) ?_
        try (simp only [Act.put, List.getElem_toArray, List.getElem_cons_succ, List.getElem_cons_zero, List.setIfInBounds_toArray, List.set_cons_zero, List.set_cons_succ])
        refine wpAny_done (by kernel_rfl) ?_ _
        clear hmi n0 n1 n2 n3
        go_wp2_with fail
        have hin2 := HB.out.reads.kept K2.out (fun _ _ h => h)
        refine (words8_any b lb cb nb w2 ⟨hin2, HB.out.byte⟩).mono ?_
        rintro e w20 ⟨yv, rfl, hwd⟩
        obtain ⟨ya2, yc2, hyf, _, hym⟩ := (strs_own hwd.row).form
        have hyl2 : (textsOf (nb.take 24)).length ≤ 24 := by rw [textsOf_length, List.length_take]; omega
        have HY2 := Lib.hid (strs_own hwd.row)
        have K20 := Lib.hid (K2.out.then hwd.kept)
        have hsh2 := textsOf_short (nb.take 24)
        subst hyf
        clear hin2 hwd hym
        generalize textsOf (nb.take 24) = ws at HY2 hyl2 hsh2 ⊢
        have HSH := Lib.hid hsh2
        have hcs := readS_words hsh2 hyl2
        have HBY := Lib.hid (rbytes8_any _ ws w20 HY2.out hsh2 (by omega))
        have hel := encL_len1 ws hsh2
        have hen := enc_len (v := ws.length) (by omega)
        have HRDW := Lib.hid (fun (W : World) (v : Value) (h : Reads W v (enc ws.length ++ encL ws)) => nread_any v (enc ws.length ++ encL ws) W h (enc8_byte ws) (by rw [List.length_append]; omega))
        generalize enc ws.length ++ encL ws = E at hcs HBY HRDW
        obtain ⟨Y, hY⟩ : ∃ Y, Y = ws.length := ⟨_, rfl⟩
        rw [← hY] at HY2 hyl2 HBY ⊢
        clear hY hsh2 hel hen
        go_wp2_with fail
        refine HBY.out.mono ?_
        rintro e w21 ⟨v21, rfl, f21, k21⟩
        have K21 := Lib.hid (K20.out.then k21)
        have HY21 := Lib.hid (HY2.out.kept k21 (fun _ _ h => h))
        have R21 := Lib.hid f21.reads
        clear f21 k21 HBY
        go_wp2_with fail
        have HRX := Lib.hid (HRDW.out w21 v21 R21.out)
        clear HRDW R21
        rcases hcs with ⟨ho, hr⟩ | ⟨ho, hr⟩
        · have HO := Lib.hid ho; have HR := Lib.hid hr
          clear ho hr
          refine HRX.out.mono ?_
          rintro e w22 (⟨hn, _⟩ | ⟨ys, g22, hys, rfl, hof⟩)
          · rw [HR.out] at hn
            cases hn
          obtain rfl : ws = ys := by
            rw [HR.out] at hys
            exact Option.some.inj hys
          have K22 := Lib.hid (K21.out.then hof.kept)
          have HY22 := Lib.hid (HY21.out.kept hof.kept (fun _ _ h => h))
          obtain ⟨t2v, t2m, t2n, t2D, ht2, _, _⟩ := hof.tab
          have HT2 := Lib.hid ht2
          clear ht2 hof hys
          go_wp2_with fail
          refine (rof_any _ ws 256 w22 HY22.out).mono ?_
          rintro e w23 (⟨h1, _⟩ | ⟨_, v23, rfl, hwd⟩)
          · exact absurd (by rw [HO.out]) h1
          have K23 := Lib.hid (K22.out.then hwd.kept)
          have HY23 := Lib.hid (HY22.out.kept hwd.kept (fun _ _ h => h))
          have HT23 := Lib.hid (HT2.out.stay hwd.kept)
          clear hwd HT2 HY22
          go_wp2_with fail
          refine (tnames_any w23 g22 ws t2v t2m t2n t2D HT23.out).mono ?_
          rintro e w24 ⟨v24, rfl, hown, k24⟩
          have K24 := Lib.hid (K23.out.then k24)
          have HO24 := Lib.hid (strs_own hown)
          have HY24 := Lib.hid (HY23.out.kept k24 (fun _ _ h => h))
          clear hown k24
          go_wp2_with fail
          refine (rsame8_any v24 _ ws ws w24 HO24.out HY24.out).mono ?_
          rw [show decide (ws = ws) = true by simp]
          rintro e w25 ⟨rfl, k25⟩
          have K25 := Lib.hid (K24.out.then k25)
          clear k25
          go_wp2_with fail
          go_ret
          exact ⟨rfl, K25.out⟩
        · have HO := Lib.hid ho; have HR := Lib.hid hr
          clear ho hr
          refine HRX.out.mono ?_
          rintro e w22 (⟨_, rfl, k22⟩ | ⟨ys, g22, hys, _⟩)
          · have K22 := Lib.hid (K21.out.then k22)
            have HRF := Lib.hid (rof_any _ ws 256 w22 (HY21.out.kept k22 (fun _ _ h => h)))
            clear k22
            have hb : ofS 256 [] ws ≠ (0, ws) := fun e => HO.out (by rw [e])
            have HBN := Lib.hid hb
            clear hb
            obtain ⟨R, hR⟩ : ∃ R, R = (ofS 256 [] ws).1 := ⟨_, rfl⟩
            rw [← hR] at HO HRF
            have hne := HO.out
            clear hR
            go_wp2_with fail
            refine HRF.out.mono ?_
            rintro e w23 (⟨_, rfl, k23⟩ | ⟨h0, _⟩)
            · have K23 := Lib.hid (K22.out.then k23)
              clear k23
              go_wp2_with fail
              go_ret
              exact ⟨rfl, K23.out⟩
            · exact absurd h0 HBN.out
          · rw [HR.out] at hys
            cases hys
      · rw [if_pos (by simp [Region.wanted, yielded])]
        go_simp
        try (refine hK _ _ ?_)
        try (clear hK K)
        try (simp only [Act.put, List.getElem_toArray, List.getElem_cons_succ, List.getElem_cons_zero, List.setIfInBounds_toArray, List.set_cons_zero, List.set_cons_succ])
        refine wpAny_ready (rs := [5]) (by kernel_rfl) (by simp) ?_
        refine AllReady.cons (o := _) rfl (fun K hK => ?_) AllReady.nil
        rw [if_pos (by simp [Region.wanted, yielded])]
        go_simp
        try (refine hK _ _ ?_)
        try (clear hK K)
        try (simp only [Act.put, List.getElem_toArray, List.getElem_cons_succ, List.getElem_cons_zero, List.setIfInBounds_toArray, List.set_cons_zero, List.set_cons_succ])
        refine wpAny_take (i := 12) (v := .bool false) rfl (by kernel_rfl) (by kernel_rfl) (by kernel_rfl) (fun _ _ _ h => h) (Or.inl ⟨by simp [Region.wanted, yielded], fun W => by go_simp⟩) ?_
        try (simp only [Act.put, List.getElem_toArray, List.getElem_cons_succ, List.getElem_cons_zero, List.setIfInBounds_toArray, List.set_cons_zero, List.set_cons_succ])
        refine wpAny_take (i := 13) (v := .bool false) rfl (by kernel_rfl) (by kernel_rfl) (by kernel_rfl) (fun _ _ _ h => h) (Or.inl ⟨by simp [Region.wanted, yielded], fun W => by go_simp⟩) ?_
        try (simp only [Act.put, List.getElem_toArray, List.getElem_cons_succ, List.getElem_cons_zero, List.setIfInBounds_toArray, List.set_cons_zero, List.set_cons_succ])
        refine wpAny_take (i := 14) (v := .bool false) rfl (by kernel_rfl) (by kernel_rfl) (by kernel_rfl) (fun _ _ _ h => h) (Or.inl ⟨by simp [Region.wanted, yielded], fun W => by go_simp⟩) ?_
        try (simp only [Act.put, List.getElem_toArray, List.getElem_cons_succ, List.getElem_cons_zero, List.setIfInBounds_toArray, List.set_cons_zero, List.set_cons_succ])
        refine wpAny_take (i := 15) (v := .int .i64 0) rfl (by kernel_rfl) (by kernel_rfl) (by kernel_rfl) (fun _ _ _ h => h) (Or.inl ⟨by simp [Region.wanted, yielded], fun W => by go_simp⟩) ?_
        try (simp only [Act.put, List.getElem_toArray, List.getElem_cons_succ, List.getElem_cons_zero, List.setIfInBounds_toArray, List.set_cons_zero, List.set_cons_succ])
        refine wpAny_take (i := 16) (v := .bool false) rfl (by kernel_rfl) (by kernel_rfl) (by kernel_rfl) (fun _ _ _ h => h) (Or.inl ⟨by simp [Region.wanted, yielded], fun W => by go_simp⟩) ?_
        try (simp only [Act.put, List.getElem_toArray, List.getElem_cons_succ, List.getElem_cons_zero, List.setIfInBounds_toArray, List.set_cons_zero, List.set_cons_succ])
        refine wpAny_take (i := 17) (v := .bool false) rfl (by kernel_rfl) (by kernel_rfl) (by kernel_rfl) (fun _ _ _ h => h) (Or.inl ⟨by simp [Region.wanted, yielded], fun W => by go_simp⟩) ?_
        try (simp only [Act.put, List.getElem_toArray, List.getElem_cons_succ, List.getElem_cons_zero, List.setIfInBounds_toArray, List.set_cons_zero, List.set_cons_succ])
        refine wpAny_take (i := 18) (v := undef) rfl (by kernel_rfl) (by kernel_rfl) (by kernel_rfl) (fun _ _ _ h => h) (Or.inr ⟨by first | (simp [Region.wanted, yielded]; done) | (simp [Region.wanted, yielded, undef]; done), rfl⟩) ?_
        try (simp only [Act.put, List.getElem_toArray, List.getElem_cons_succ, List.getElem_cons_zero, List.setIfInBounds_toArray, List.set_cons_zero, List.set_cons_succ])
        refine wpAny_take (i := 19) (v := undef) rfl (by kernel_rfl) (by kernel_rfl) (by kernel_rfl) (fun _ _ _ h => h) (Or.inr ⟨by first | (simp [Region.wanted, yielded]; done) | (simp [Region.wanted, yielded, undef]; done), rfl⟩) ?_
        try (simp only [Act.put, List.getElem_toArray, List.getElem_cons_succ, List.getElem_cons_zero, List.setIfInBounds_toArray, List.set_cons_zero, List.set_cons_succ])
        refine wpAny_take (i := 20) (v := undef) rfl (by kernel_rfl) (by kernel_rfl) (by kernel_rfl) (fun _ _ _ h => h) (Or.inr ⟨by first | (simp [Region.wanted, yielded]; done) | (simp [Region.wanted, yielded, undef]; done), rfl⟩) ?_
        try (simp only [Act.put, List.getElem_toArray, List.getElem_cons_succ, List.getElem_cons_zero, List.setIfInBounds_toArray, List.set_cons_zero, List.set_cons_succ])
        refine wpAny_take (i := 21) (v := undef) rfl (by kernel_rfl) (by kernel_rfl) (by kernel_rfl) (fun _ _ _ h => h) (Or.inr ⟨by first | (simp [Region.wanted, yielded]; done) | (simp [Region.wanted, yielded, undef]; done), rfl⟩) ?_
        try (simp only [Act.put, List.getElem_toArray, List.getElem_cons_succ, List.getElem_cons_zero, List.setIfInBounds_toArray, List.set_cons_zero, List.set_cons_succ])
        refine wpAny_take (i := 22) (v := undef) rfl (by kernel_rfl) (by kernel_rfl) (by kernel_rfl) (fun _ _ _ h => h) (Or.inr ⟨by first | (simp [Region.wanted, yielded]; done) | (simp [Region.wanted, yielded, undef]; done), rfl⟩) ?_
        try (simp only [Act.put, List.getElem_toArray, List.getElem_cons_succ, List.getElem_cons_zero, List.setIfInBounds_toArray, List.set_cons_zero, List.set_cons_succ])
        refine wpAny_take (i := 23) (v := undef) rfl (by kernel_rfl) (by kernel_rfl) (by kernel_rfl) (fun _ _ _ h => h) (Or.inr ⟨by first | (simp [Region.wanted, yielded]; done) | (simp [Region.wanted, yielded, undef]; done), rfl⟩) ?_
        try (simp only [Act.put, List.getElem_toArray, List.getElem_cons_succ, List.getElem_cons_zero, List.setIfInBounds_toArray, List.set_cons_zero, List.set_cons_succ])
        refine wpAny_take (i := 24) (v := .bool false) rfl (by kernel_rfl) (by kernel_rfl) (by kernel_rfl) (fun _ _ _ h => h) (Or.inl ⟨by simp [Region.wanted, yielded], fun W => by go_simp⟩) ?_
        try (simp only [Act.put, List.getElem_toArray, List.getElem_cons_succ, List.getElem_cons_zero, List.setIfInBounds_toArray, List.set_cons_zero, List.set_cons_succ])
        refine wpAny_take (i := 25) (v := .bool false) rfl (by kernel_rfl) (by kernel_rfl) (by kernel_rfl) (fun _ _ _ h => h) (Or.inl ⟨by simp [Region.wanted, yielded], fun W => by go_simp⟩) ?_
        try (simp only [Act.put, List.getElem_toArray, List.getElem_cons_succ, List.getElem_cons_zero, List.setIfInBounds_toArray, List.set_cons_zero, List.set_cons_succ])
        refine wpAny_done (by kernel_rfl) ?_ _
        clear hmi n0 n1 n2 n3
        go_wp2_with fail
        have hin2 := HB.out.reads.kept K2.out (fun _ _ h => h)
        refine (words8_any b lb cb nb w2 ⟨hin2, HB.out.byte⟩).mono ?_
        rintro e w20 ⟨yv, rfl, hwd⟩
        obtain ⟨ya2, yc2, hyf, _, hym⟩ := (strs_own hwd.row).form
        have hyl2 : (textsOf (nb.take 24)).length ≤ 24 := by rw [textsOf_length, List.length_take]; omega
        have HY2 := Lib.hid (strs_own hwd.row)
        have K20 := Lib.hid (K2.out.then hwd.kept)
        have hsh2 := textsOf_short (nb.take 24)
        subst hyf
        clear hin2 hwd hym
        generalize textsOf (nb.take 24) = ws at HY2 hyl2 hsh2 ⊢
        have HSH := Lib.hid hsh2
        have hcs := readS_words hsh2 hyl2
        have HBY := Lib.hid (rbytes8_any _ ws w20 HY2.out hsh2 (by omega))
        have hel := encL_len1 ws hsh2
        have hen := enc_len (v := ws.length) (by omega)
        have HRDW := Lib.hid (fun (W : World) (v : Value) (h : Reads W v (enc ws.length ++ encL ws)) => nread_any v (enc ws.length ++ encL ws) W h (enc8_byte ws) (by rw [List.length_append]; omega))
        generalize enc ws.length ++ encL ws = E at hcs HBY HRDW
        obtain ⟨Y, hY⟩ : ∃ Y, Y = ws.length := ⟨_, rfl⟩
        rw [← hY] at HY2 hyl2 HBY ⊢
        clear hY hsh2 hel hen
        go_wp2_with fail
        refine HBY.out.mono ?_
        rintro e w21 ⟨v21, rfl, f21, k21⟩
        have K21 := Lib.hid (K20.out.then k21)
        have HY21 := Lib.hid (HY2.out.kept k21 (fun _ _ h => h))
        have R21 := Lib.hid f21.reads
        clear f21 k21 HBY
        go_wp2_with fail
        have HRX := Lib.hid (HRDW.out w21 v21 R21.out)
        clear HRDW R21
        rcases hcs with ⟨ho, hr⟩ | ⟨ho, hr⟩
        · have HO := Lib.hid ho; have HR := Lib.hid hr
          clear ho hr
          refine HRX.out.mono ?_
          rintro e w22 (⟨hn, _⟩ | ⟨ys, g22, hys, rfl, hof⟩)
          · rw [HR.out] at hn
            cases hn
          obtain rfl : ws = ys := by
            rw [HR.out] at hys
            exact Option.some.inj hys
          have K22 := Lib.hid (K21.out.then hof.kept)
          have HY22 := Lib.hid (HY21.out.kept hof.kept (fun _ _ h => h))
          obtain ⟨t2v, t2m, t2n, t2D, ht2, _, _⟩ := hof.tab
          have HT2 := Lib.hid ht2
          clear ht2 hof hys
          go_wp2_with fail
          refine (rof_any _ ws 256 w22 HY22.out).mono ?_
          rintro e w23 (⟨h1, _⟩ | ⟨_, v23, rfl, hwd⟩)
          · exact absurd (by rw [HO.out]) h1
          have K23 := Lib.hid (K22.out.then hwd.kept)
          have HY23 := Lib.hid (HY22.out.kept hwd.kept (fun _ _ h => h))
          have HT23 := Lib.hid (HT2.out.stay hwd.kept)
          clear hwd HT2 HY22
          go_wp2_with fail
          refine (tnames_any w23 g22 ws t2v t2m t2n t2D HT23.out).mono ?_
          rintro e w24 ⟨v24, rfl, hown, k24⟩
          have K24 := Lib.hid (K23.out.then k24)
          have HO24 := Lib.hid (strs_own hown)
          have HY24 := Lib.hid (HY23.out.kept k24 (fun _ _ h => h))
          clear hown k24
          go_wp2_with fail
          refine (rsame8_any v24 _ ws ws w24 HO24.out HY24.out).mono ?_
          rw [show decide (ws = ws) = true by simp]
          rintro e w25 ⟨rfl, k25⟩
          have K25 := Lib.hid (K24.out.then k25)
          clear k25
          go_wp2_with fail
          go_ret
          exact ⟨rfl, K25.out⟩
        · have HO := Lib.hid ho; have HR := Lib.hid hr
          clear ho hr
          refine HRX.out.mono ?_
          rintro e w22 (⟨_, rfl, k22⟩ | ⟨ys, g22, hys, _⟩)
          · have K22 := Lib.hid (K21.out.then k22)
            have HRF := Lib.hid (rof_any _ ws 256 w22 (HY21.out.kept k22 (fun _ _ h => h)))
            clear k22
            have hb : ofS 256 [] ws ≠ (0, ws) := fun e => HO.out (by rw [e])
            have HBN := Lib.hid hb
            clear hb
            obtain ⟨R, hR⟩ : ∃ R, R = (ofS 256 [] ws).1 := ⟨_, rfl⟩
            rw [← hR] at HO HRF
            have hne := HO.out
            clear hR
            go_wp2_with fail
            refine HRF.out.mono ?_
            rintro e w23 (⟨_, rfl, k23⟩ | ⟨h0, _⟩)
            · have K23 := Lib.hid (K22.out.then k23)
              clear k23
              go_wp2_with fail
              go_ret
              exact ⟨rfl, K23.out⟩
            · exact absurd h0 HBN.out
          · rw [HR.out] at hys
            cases hys
    · rw [if_pos (by simp [Region.wanted, yielded])]
      go_simp
      try (refine hK _ _ ?_)
      try (clear hK K)
      try (simp only [Act.put, List.getElem_toArray, List.getElem_cons_succ, List.getElem_cons_zero, List.setIfInBounds_toArray, List.set_cons_zero, List.set_cons_succ])
      refine wpAny_ready (rs := [4]) (by kernel_rfl) (by simp) ?_
      refine AllReady.cons (o := _) rfl (fun K hK => ?_) AllReady.nil
      rw [if_pos (by simp [Region.wanted, yielded])]
      go_simp
      go_at_call 15
      refine (HB1.out).mono ?_
      rintro e w2 ⟨v2, rfl, f2, k2⟩; have K2 := Lib.hid (K1d.out.then k2); have c2 := hRP.out v2 w2 f2.reads; have p2 := hRP.out _ w2 (hPT.out w2 (HRP0.out.kept K2.out (fun _ _ h => h))); clear f2 k2
      go_wp2_with fail
      try (refine hK _ _ ?_)
      try (clear hK K)
      try (simp only [Act.put, List.getElem_toArray, List.getElem_cons_succ, List.getElem_cons_zero, List.setIfInBounds_toArray, List.set_cons_zero, List.set_cons_succ])
      refine wpAny_ready (rs := [5]) (by kernel_rfl) (by simp) ?_
      refine AllReady.cons (o := _) rfl (fun K hK => ?_) AllReady.nil
      rw [if_pos (by simp [Region.wanted, yielded])]
      go_simp
      try (refine hK _ _ ?_)
      try (clear hK K)
      try (simp only [Act.put, List.getElem_toArray, List.getElem_cons_succ, List.getElem_cons_zero, List.setIfInBounds_toArray, List.set_cons_zero, List.set_cons_succ])
      refine wpAny_take (i := 12) (v := .bool false) rfl (by kernel_rfl) (by kernel_rfl) (by kernel_rfl) (fun _ _ _ h => h) (Or.inl ⟨by simp [Region.wanted, yielded], fun W => by go_simp⟩) ?_
      try (simp only [Act.put, List.getElem_toArray, List.getElem_cons_succ, List.getElem_cons_zero, List.setIfInBounds_toArray, List.set_cons_zero, List.set_cons_succ])
      refine wpAny_take (i := 13) (v := .bool false) rfl (by kernel_rfl) (by kernel_rfl) (by kernel_rfl) (fun _ _ _ h => h) (Or.inl ⟨by simp [Region.wanted, yielded], fun W => by go_simp⟩) ?_
      try (simp only [Act.put, List.getElem_toArray, List.getElem_cons_succ, List.getElem_cons_zero, List.setIfInBounds_toArray, List.set_cons_zero, List.set_cons_succ])
      refine wpAny_take (i := 14) (v := .bool false) rfl (by kernel_rfl) (by kernel_rfl) (by kernel_rfl) (fun _ _ _ h => h) (Or.inl ⟨by simp [Region.wanted, yielded], fun W => by go_simp⟩) ?_
      try (simp only [Act.put, List.getElem_toArray, List.getElem_cons_succ, List.getElem_cons_zero, List.setIfInBounds_toArray, List.set_cons_zero, List.set_cons_succ])
      refine wpAny_take (i := 15) (v := .int .i64 0) rfl (by kernel_rfl) (by kernel_rfl) (by kernel_rfl) (fun _ _ _ h => h) (Or.inl ⟨by simp [Region.wanted, yielded], fun W => by go_simp⟩) ?_
      try (simp only [Act.put, List.getElem_toArray, List.getElem_cons_succ, List.getElem_cons_zero, List.setIfInBounds_toArray, List.set_cons_zero, List.set_cons_succ])
      refine wpAny_take (i := 16) (v := .bool false) rfl (by kernel_rfl) (by kernel_rfl) (by kernel_rfl) (fun _ _ _ h => h) (Or.inl ⟨by simp [Region.wanted, yielded], fun W => by go_simp⟩) ?_
      try (simp only [Act.put, List.getElem_toArray, List.getElem_cons_succ, List.getElem_cons_zero, List.setIfInBounds_toArray, List.set_cons_zero, List.set_cons_succ])
      refine wpAny_take (i := 17) (v := .bool false) rfl (by kernel_rfl) (by kernel_rfl) (by kernel_rfl) (fun _ _ _ h => h) (Or.inl ⟨by simp [Region.wanted, yielded], fun W => by go_simp⟩) ?_
      try (simp only [Act.put, List.getElem_toArray, List.getElem_cons_succ, List.getElem_cons_zero, List.setIfInBounds_toArray, List.set_cons_zero, List.set_cons_succ])
      refine wpAny_take (i := 18) (v := undef) rfl (by kernel_rfl) (by kernel_rfl) (by kernel_rfl) (fun _ _ _ h => h) (Or.inr ⟨by first | (simp [Region.wanted, yielded]; done) | (simp [Region.wanted, yielded, undef]; done), rfl⟩) ?_
      try (simp only [Act.put, List.getElem_toArray, List.getElem_cons_succ, List.getElem_cons_zero, List.setIfInBounds_toArray, List.set_cons_zero, List.set_cons_succ])
      refine wpAny_take (i := 19) (v := undef) rfl (by kernel_rfl) (by kernel_rfl) (by kernel_rfl) (fun _ _ _ h => h) (Or.inr ⟨by first | (simp [Region.wanted, yielded]; done) | (simp [Region.wanted, yielded, undef]; done), rfl⟩) ?_
      try (simp only [Act.put, List.getElem_toArray, List.getElem_cons_succ, List.getElem_cons_zero, List.setIfInBounds_toArray, List.set_cons_zero, List.set_cons_succ])
      refine wpAny_take (i := 20) (v := undef) rfl (by kernel_rfl) (by kernel_rfl) (by kernel_rfl) (fun _ _ _ h => h) (Or.inr ⟨by first | (simp [Region.wanted, yielded]; done) | (simp [Region.wanted, yielded, undef]; done), rfl⟩) ?_
      try (simp only [Act.put, List.getElem_toArray, List.getElem_cons_succ, List.getElem_cons_zero, List.setIfInBounds_toArray, List.set_cons_zero, List.set_cons_succ])
      refine wpAny_take (i := 21) (v := undef) rfl (by kernel_rfl) (by kernel_rfl) (by kernel_rfl) (fun _ _ _ h => h) (Or.inr ⟨by first | (simp [Region.wanted, yielded]; done) | (simp [Region.wanted, yielded, undef]; done), rfl⟩) ?_
      try (simp only [Act.put, List.getElem_toArray, List.getElem_cons_succ, List.getElem_cons_zero, List.setIfInBounds_toArray, List.set_cons_zero, List.set_cons_succ])
      refine wpAny_take (i := 22) (v := undef) rfl (by kernel_rfl) (by kernel_rfl) (by kernel_rfl) (fun _ _ _ h => h) (Or.inr ⟨by first | (simp [Region.wanted, yielded]; done) | (simp [Region.wanted, yielded, undef]; done), rfl⟩) ?_
      try (simp only [Act.put, List.getElem_toArray, List.getElem_cons_succ, List.getElem_cons_zero, List.setIfInBounds_toArray, List.set_cons_zero, List.set_cons_succ])
      refine wpAny_take (i := 23) (v := undef) rfl (by kernel_rfl) (by kernel_rfl) (by kernel_rfl) (fun _ _ _ h => h) (Or.inr ⟨by first | (simp [Region.wanted, yielded]; done) | (simp [Region.wanted, yielded, undef]; done), rfl⟩) ?_
      try (simp only [Act.put, List.getElem_toArray, List.getElem_cons_succ, List.getElem_cons_zero, List.setIfInBounds_toArray, List.set_cons_zero, List.set_cons_succ])
      refine wpAny_take (i := 24) (v := .bool false) rfl (by kernel_rfl) (by kernel_rfl) (by kernel_rfl) (fun _ _ _ h => h) (Or.inl ⟨by simp [Region.wanted, yielded], fun W => by go_simp⟩) ?_
      try (simp only [Act.put, List.getElem_toArray, List.getElem_cons_succ, List.getElem_cons_zero, List.setIfInBounds_toArray, List.set_cons_zero, List.set_cons_succ])
      refine wpAny_take (i := 25) (v := .bool false) rfl (by kernel_rfl) (by kernel_rfl) (by kernel_rfl) (fun _ _ _ h => h) (Or.inl ⟨by simp [Region.wanted, yielded], fun W => by go_simp⟩) ?_
      try (simp only [Act.put, List.getElem_toArray, List.getElem_cons_succ, List.getElem_cons_zero, List.setIfInBounds_toArray, List.set_cons_zero, List.set_cons_succ])
      refine wpAny_done (by kernel_rfl) ?_ _
      clear hmi n0 n1 n2 n3
      go_wp2_with fail
      have hin2 := HB.out.reads.kept K2.out (fun _ _ h => h)
      refine (words8_any b lb cb nb w2 ⟨hin2, HB.out.byte⟩).mono ?_
      rintro e w20 ⟨yv, rfl, hwd⟩
      obtain ⟨ya2, yc2, hyf, _, hym⟩ := (strs_own hwd.row).form
      have hyl2 : (textsOf (nb.take 24)).length ≤ 24 := by rw [textsOf_length, List.length_take]; omega
      have HY2 := Lib.hid (strs_own hwd.row)
      have K20 := Lib.hid (K2.out.then hwd.kept)
      have hsh2 := textsOf_short (nb.take 24)
      subst hyf
      clear hin2 hwd hym
      generalize textsOf (nb.take 24) = ws at HY2 hyl2 hsh2 ⊢
      have HSH := Lib.hid hsh2
      have hcs := readS_words hsh2 hyl2
      have HBY := Lib.hid (rbytes8_any _ ws w20 HY2.out hsh2 (by omega))
      have hel := encL_len1 ws hsh2
      have hen := enc_len (v := ws.length) (by omega)
      have HRDW := Lib.hid (fun (W : World) (v : Value) (h : Reads W v (enc ws.length ++ encL ws)) => nread_any v (enc ws.length ++ encL ws) W h (enc8_byte ws) (by rw [List.length_append]; omega))
      generalize enc ws.length ++ encL ws = E at hcs HBY HRDW
      obtain ⟨Y, hY⟩ : ∃ Y, Y = ws.length := ⟨_, rfl⟩
      rw [← hY] at HY2 hyl2 HBY ⊢
      clear hY hsh2 hel hen
      go_wp2_with fail
      refine HBY.out.mono ?_
      rintro e w21 ⟨v21, rfl, f21, k21⟩
      have K21 := Lib.hid (K20.out.then k21)
      have HY21 := Lib.hid (HY2.out.kept k21 (fun _ _ h => h))
      have R21 := Lib.hid f21.reads
      clear f21 k21 HBY
      go_wp2_with fail
      have HRX := Lib.hid (HRDW.out w21 v21 R21.out)
      clear HRDW R21
      rcases hcs with ⟨ho, hr⟩ | ⟨ho, hr⟩
      · have HO := Lib.hid ho; have HR := Lib.hid hr
        clear ho hr
        refine HRX.out.mono ?_
        rintro e w22 (⟨hn, _⟩ | ⟨ys, g22, hys, rfl, hof⟩)
        · rw [HR.out] at hn
          cases hn
        obtain rfl : ws = ys := by
          rw [HR.out] at hys
          exact Option.some.inj hys
        have K22 := Lib.hid (K21.out.then hof.kept)
        have HY22 := Lib.hid (HY21.out.kept hof.kept (fun _ _ h => h))
        obtain ⟨t2v, t2m, t2n, t2D, ht2, _, _⟩ := hof.tab
        have HT2 := Lib.hid ht2
        clear ht2 hof hys
        go_wp2_with fail
        refine (rof_any _ ws 256 w22 HY22.out).mono ?_
        rintro e w23 (⟨h1, _⟩ | ⟨_, v23, rfl, hwd⟩)
        · exact absurd (by rw [HO.out]) h1
        have K23 := Lib.hid (K22.out.then hwd.kept)
        have HY23 := Lib.hid (HY22.out.kept hwd.kept (fun _ _ h => h))
        have HT23 := Lib.hid (HT2.out.stay hwd.kept)
        clear hwd HT2 HY22
        go_wp2_with fail
        refine (tnames_any w23 g22 ws t2v t2m t2n t2D HT23.out).mono ?_
        rintro e w24 ⟨v24, rfl, hown, k24⟩
        have K24 := Lib.hid (K23.out.then k24)
        have HO24 := Lib.hid (strs_own hown)
        have HY24 := Lib.hid (HY23.out.kept k24 (fun _ _ h => h))
        clear hown k24
        go_wp2_with fail
        refine (rsame8_any v24 _ ws ws w24 HO24.out HY24.out).mono ?_
        rw [show decide (ws = ws) = true by simp]
        rintro e w25 ⟨rfl, k25⟩
        have K25 := Lib.hid (K24.out.then k25)
        clear k25
        go_wp2_with fail
        go_ret
        exact ⟨rfl, K25.out⟩
      · have HO := Lib.hid ho; have HR := Lib.hid hr
        clear ho hr
        refine HRX.out.mono ?_
        rintro e w22 (⟨_, rfl, k22⟩ | ⟨ys, g22, hys, _⟩)
        · have K22 := Lib.hid (K21.out.then k22)
          have HRF := Lib.hid (rof_any _ ws 256 w22 (HY21.out.kept k22 (fun _ _ h => h)))
          clear k22
          have hb : ofS 256 [] ws ≠ (0, ws) := fun e => HO.out (by rw [e])
          have HBN := Lib.hid hb
          clear hb
          obtain ⟨R, hR⟩ : ∃ R, R = (ofS 256 [] ws).1 := ⟨_, rfl⟩
          rw [← hR] at HO HRF
          have hne := HO.out
          clear hR
          go_wp2_with fail
          refine HRF.out.mono ?_
          rintro e w23 (⟨_, rfl, k23⟩ | ⟨h0, _⟩)
          · have K23 := Lib.hid (K22.out.then k23)
            clear k23
            go_wp2_with fail
            go_ret
            exact ⟨rfl, K23.out⟩
          · exact absurd h0 HBN.out
        · rw [HR.out] at hys
          cases hys
end Go.Proofs.Ytmhfbcapmlofbaa
