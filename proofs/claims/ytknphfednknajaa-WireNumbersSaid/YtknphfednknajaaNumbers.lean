/-
  arbaclaw02.WireNumbers returns true for every two numbers; nothing that was there is changed.
-/
import Derived.Test.YtknphfednknajaaAwake
import Derived.Test.YtknphfednknajaaPut
namespace Go.Proofs.Ytknphfednknajaa
open Go.RowKit

theorem uintS_enc (v most : Nat) (hv : v < 18446744073709551616) : uintS (enc v) most 0 = if most < v then (0, enc v, 2) else (v, [], 0) := by
  have h1 := numberS_enc [] hv
  rw [List.append_nil] at h1
  have h2 := enc_pos v
  rw [uintS, if_pos rfl, boundedS, h1]
  simp only
  rw [if_neg (by omega)]
  split
  · rfl
  · rw [List.drop_length]

theorem ruint_max (w : World) (rb : Nat) (rv : Value) (n : Nat) (h : Rd w rb rv (enc n) 0) (hn : Hid (n < 18446744073709551616)) :
    Calls Try.prog 12 #[.pointer (some ⟨rb, 0, none⟩), .int .u64 18446744073709551615] w fun e w' =>
      e = .returned (.int .u64 n) ∧ ∃ v', Rd w' rb v' [] 0 ∧ v'.ownBlock = rv.ownBlock ∧ Kept (fun k => k = rb) w w' := by
  have hr := ruint_any w rb rv (enc n) 0 18446744073709551615 h (enc_byte n)
  have he : ¬ (18446744073709551615 < n) := by have := hn.out; omega
  rw [uintS_enc n _ hn.out, if_neg he] at hr
  exact hr

/-- What a read of a written number gives. -/
theorem ruint_lim (w : World) (rb : Nat) (rv : Value) (n most : Nat) (h : Rd w rb rv (enc n) 0) (hn : Hid (n < 18446744073709551616)) :
    Calls Try.prog 12 #[.pointer (some ⟨rb, 0, none⟩), .int .u64 most] w fun e w' =>
      (most < n → e = .returned (.int .u64 0) ∧ ∃ v', Rd w' rb v' (enc n) 2 ∧ v'.ownBlock = rv.ownBlock ∧ Kept (fun k => k = rb) w w') ∧
      (¬ most < n → e = .returned (.int .u64 n) ∧ ∃ v', Rd w' rb v' [] 0 ∧ v'.ownBlock = rv.ownBlock ∧ Kept (fun k => k = rb) w w') := by
  refine (ruint_any w rb rv (enc n) 0 most h (enc_byte n)).mono ?_
  intro e w' hr
  rw [uintS_enc n _ hn.out] at hr
  constructor
  · intro hlt
    rw [if_pos hlt] at hr
    exact hr
  · intro hlt
    rw [if_neg hlt] at hr
    exact hr

set_option maxRecDepth 100000 in
set_option maxHeartbeats 1600000 in
theorem numbers_any (n most : Nat) (w : World) (hn : Hid (n < 18446744073709551616)) :
    Calls Try.prog 4 #[.int .u64 n, .int .u64 most] w fun e w' => e = .returned (.bool true) ∧ Below w.heap.size w w' := by
  have hlen := enc_len hn.out
  go_enter Try.func4, Try.ntmps4
  go_wp2_with fail
  refine (awake_any w).mono ?_
  rintro e w0 ⟨rfl, hk0⟩
  go_wp2_with fail
  refine (newWriter_any w0).mono ?_
  rintro e w1 ⟨rfl, hw1⟩
  have hwr1 : Wr w1 w0.heap.size (.slice none 0 0) w0.heap.size [] := by rw [hw1]; exact wr_new w0 w0.heap.size (Nat.le_refl _)
  have hk1 : Kept (fun _ => False) w0 w1 := by rw [hw1]; exact Kept.alloc _ _ _
  clear hw1
  go_wp2_with fail
  refine (uint_any n w1 w0.heap.size _ w0.heap.size [] hwr1 (by simp) hn).mono ?_
  rintro e w2 ⟨rfl, v2, hwr2, hs2⟩
  rw [List.nil_append] at hwr2
  have hk02 : Kept (fun _ => False) w w2 := hk0.then (hk1.trans hs2.kept (fun _ _ h => h) fun i hi h => by
    rcases h with h | h
    · omega
    · simp [blk, Value.ownBlock] at h)
  go_wp2_with fail
  refine (out_any w2 w0.heap.size v2 _ hwr2.reads (by omega) hwr2.cell).mono ?_
  rintro e w3 ⟨p, rfl, hf3, hk3⟩
  obtain ⟨pa, pc, hpf⟩ := own_form hf3.own
  obtain ⟨N, hN⟩ : ∃ N, N = (enc n).length := ⟨_, rfl⟩
  rw [← hN] at hpf
  have HN := Lib.hid hN; clear hN
  have hp3 := hf3.reads
  rw [hpf] at hp3 ⊢
  have hk03 := hk02.then hk3
  clear hpf hf3 hk3 hs2 hwr1 hwr2 hk0 hk1 hk02
  go_wp2_with fail
  refine (newReader_any w3 _ (enc n) hp3 (by omega)).mono ?_
  rintro e w4 ⟨rb, rv, rfl, hrd4, hrb4, hrv4, hk4⟩
  have hp4 := hp3.kept hk4 (fun _ _ h => h)
  go_wp2_with fail
  refine (newReader_any w4 _ (enc n) hp4 (by omega)).mono ?_
  rintro e w5 ⟨sb, sv, rfl, hsd5, hsb5, hsv5, hk5⟩
  have hp5 := hp4.kept hk5 (fun _ _ h => h)
  have hrd5 := hrd4.kept hk5 (fun h => h) (fun _ _ h => h)
  have hrblt := hrd4.lt
  have hrvlt := hrd4.reads.lt
  have hplt := hp3.lt
  go_wp2_with fail
  refine (ruint_max w5 rb rv n hrd5 hn).mono ?_
  rintro e w6 ⟨rfl, rv6, hrd6, hrv6, hk6⟩
  have hp6 := hp5.kept hk6 (fun k hk e => by have := hplt k hk; omega)
  have hsd6 := hsd5.kept hk6 (by omega) (fun k hk e => by have := hsv5 k hk; omega)
  have HRV6 := Lib.hid hrv6; clear hrv6
  go_wp2_with fail
  refine (ruint_lim w6 sb sv n most hsd6 hn).mono ?_
  intro e w7 hres
  have hksb : ∀ (v' : Value) (xs' : List Nat) (er : Int), (Rd w7 sb v' xs' er ∧ v'.ownBlock = sv.ownBlock ∧ Kept (fun k => k = sb) w6 w7) → Kept (fun _ => False) w w7 ∧ Reads w7 (.slice pa N pc) (enc n) ∧ Rd w7 rb rv6 [] 0 := by
    intro v' xs' er ⟨_, _, hk7⟩
    have s4 := hk4.size
    have s5 := hk5.size
    have s6 := hk6.size
    have s03 := hk03.size
    refine ⟨?_, hp6.kept hk7 (fun k hk e => by have := hplt k hk; omega), hrd6.kept hk7 (by omega) (fun k hk e => by rw [HRV6.out] at hk; have := hrvlt k hk; omega)⟩
    refine (((hk03.then hk4).then hk5).trans hk6 (fun _ _ h => h) fun i hi h => ?_).trans hk7 (fun _ _ h => h) fun i hi h => ?_
    · omega
    · omega
  have HKSB := Lib.hid hksb; clear hksb
  have hpos := enc_pos n
  by_cases hlt : most < n
  · obtain ⟨rfl, sv7, hsd7, hsv7, hk7⟩ := hres.1 hlt
    obtain ⟨hkw7, hp7, hrd7⟩ := HKSB.out _ _ _ ⟨hsd7, hsv7, hk7⟩
    have HS7 := Lib.hid hsv7; clear hsv7 hk7 hres HKSB
    clear hk03 hk4 hk5 hk6 hp3 hp4 hp5 hp6 hrd4 hrd5 hrd6 hsd5 hsd6 hrv4 hsv5 hrvlt hplt
    have hd : decide ((most : Int) < (n : Int)) = true := by simpa using hlt
    go_wp2_with fail
    refine (put_any n w7 hn).mono ?_
    rintro e w8 ⟨q, rfl, hf8, hk8⟩
    have hp8 := hp7.kept hk8 (fun _ _ h => h)
    have hrd8 := hrd7.kept hk8 (fun h => h) (fun _ _ h => h)
    have hsd8 := hsd7.kept hk8 (fun h => h) (fun _ _ h => h)
    have hkw8 := hkw7.then hk8
    go_wp2_with fail
    refine (same_any w8 _ q (enc n) (enc n) hp8 hf8.reads (enc_byte n) (enc_byte n)).mono ?_
    rw [show decide (enc n = enc n) = true by simp]
    rintro e w9 ⟨rfl, rfl⟩
    have hE := end_any w8 rb rv6 [] 0 hrd8
    rw [if_neg (by simp)] at hE
    have HE := Lib.hid hE; clear hE
    obtain ⟨sa, sc, hsf⟩ : ∃ a c, sv7 = .slice a N c := by
      rcases hsd8.reads with ⟨h, h2⟩ | ⟨g, off, cap, h, _⟩
      · rw [h2] at hpos; simp at hpos
      · exact ⟨_, _, by rw [h, ← HN.out]⟩
    have c0 := hsd8.cell0
    rw [hsf] at c0
    have c1 := hsd8.cell1
    have C0 := Lib.hid c0; have C1 := Lib.hid c1; clear c0 c1 hsf
    have HKW := Lib.hid hkw8; clear hkw8 hkw7
    clear hp7 hrd7 hsd7 hf8 hk8 hp8 hrd8 hsd8
    go_wp2_with fail
    refine HE.out.mono ?_
    rintro e w9 ⟨rfl, rfl⟩
    go_wp2_with fail
    refine (err_any w8 sb 2 C1.out).mono ?_
    rintro e w9 ⟨rfl, rfl⟩
    go_wp2_with fail
    refine (left_any w8 sb sa N sc C0.out).mono ?_
    rintro e w9 ⟨rfl, rfl⟩
    go_wp2_with fail
    go_ret
    exact ⟨by simp, HKW.out.below (Nat.le_refl _) (fun _ h => h.elim)⟩
  · obtain ⟨rfl, sv7, hsd7, hsv7, hk7⟩ := hres.2 hlt
    obtain ⟨hkw7, hp7, hrd7⟩ := HKSB.out _ _ _ ⟨hsd7, hsv7, hk7⟩
    have HS7 := Lib.hid hsv7; clear hsv7 hk7 hres HKSB
    clear hk03 hk4 hk5 hk6 hp3 hp4 hp5 hp6 hrd4 hrd5 hrd6 hsd5 hsd6 hrv4 hsv5 hrvlt hplt
    have hd : decide ((most : Int) < (n : Int)) = false := by simpa using hlt
    go_wp2_with fail
    refine (put_any n w7 hn).mono ?_
    rintro e w8 ⟨q, rfl, hf8, hk8⟩
    have hp8 := hp7.kept hk8 (fun _ _ h => h)
    have hrd8 := hrd7.kept hk8 (fun h => h) (fun _ _ h => h)
    have hsd8 := hsd7.kept hk8 (fun h => h) (fun _ _ h => h)
    have hkw8 := hkw7.then hk8
    go_wp2_with fail
    refine (same_any w8 _ q (enc n) (enc n) hp8 hf8.reads (enc_byte n) (enc_byte n)).mono ?_
    rw [show decide (enc n = enc n) = true by simp]
    rintro e w9 ⟨rfl, rfl⟩
    have hE := end_any w8 rb rv6 [] 0 hrd8
    have hE2 := end_any w8 sb sv7 [] 0 hsd8
    rw [if_neg (by simp)] at hE hE2
    have HE := Lib.hid hE; clear hE
    have HE2 := Lib.hid hE2; clear hE2
    have HKW := Lib.hid hkw8; clear hkw8 hkw7
    clear hp7 hrd7 hsd7 hf8 hk8 hp8 hrd8 hsd8
    go_wp2_with fail
    refine HE.out.mono ?_
    rintro e w9 ⟨rfl, rfl⟩
    go_wp2_with fail
    refine HE2.out.mono ?_
    rintro e w9 ⟨rfl, rfl⟩
    go_wp2_with fail
    go_ret
    exact ⟨by simp, HKW.out.below (Nat.le_refl _) (fun _ h => h.elim)⟩

end Go.Proofs.Ytknphfednknajaa
