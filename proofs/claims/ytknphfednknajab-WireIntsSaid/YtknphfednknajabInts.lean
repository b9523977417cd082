/-
  arbaclaw02.WireInts returns true for every number and every span; nothing that was there is changed.
-/
import Derived.Test.YtknphfednknajabAwake
import Derived.Test.YtknphfednknajabRInt
import Derived.Deep.RegionHeld3
namespace Go.Proofs.Ytknphfednknajab
open Go.RowKit

theorem intS_enc (v low high : Int) (hv : -9223372036854775808 ≤ v ∧ v < 9223372036854775808) :
    intS (enc (zz v)) low high 0 = if high < low then (0, enc (zz v), 1) else if v < low ∨ high < v then (0, enc (zz v), 2) else (v, [], 0) := by
  have h1 := numberS_enc [] (zz_lt v hv)
  rw [List.append_nil] at h1
  have h2 := enc_pos (zz v)
  rw [intS, if_neg (by simp), h1]
  simp only [unzz_zz]
  by_cases a : high < low
  · rw [if_pos a, if_pos a]
  · rw [if_neg a, if_neg a, if_neg (by omega), List.drop_length]

theorem rint_max (w : World) (rb : Nat) (rv : Value) (v : Int) (h : Rd w rb rv (enc (zz v)) 0) (hv : Hid (-9223372036854775808 ≤ v ∧ v < 9223372036854775808)) :
    Calls Try.prog 13 #[.pointer (some ⟨rb, 0, none⟩), .int .i64 (-9223372036854775808), .int .i64 9223372036854775807] w fun e w' =>
      e = .returned (.int .i64 v) ∧ ∃ v', Rd w' rb v' [] 0 ∧ v'.ownBlock = rv.ownBlock ∧ Kept (fun k => k = rb) w w' := by
  have hr := rint_any w rb rv _ 0 (-9223372036854775808) 9223372036854775807 h (enc_byte _)
  have hv' := hv.out
  rw [intS_enc v _ _ hv.out, if_neg (by omega), if_neg (by omega)] at hr
  exact hr

theorem rint_args (w : World) (rb : Nat) (rv : Value) (v low high : Int) (h : Rd w rb rv (enc (zz v)) 0) (hv : Hid (-9223372036854775808 ≤ v ∧ v < 9223372036854775808)) (hb : high < low) :
    Calls Try.prog 13 #[.pointer (some ⟨rb, 0, none⟩), .int .i64 low, .int .i64 high] w fun e w' =>
      e = .returned (.int .i64 0) ∧ ∃ v', Rd w' rb v' (enc (zz v)) 1 ∧ v'.ownBlock = rv.ownBlock ∧ Kept (fun k => k = rb) w w' := by
  have hr := rint_any w rb rv _ 0 low high h (enc_byte _)
  rw [intS_enc v _ _ hv.out, if_pos hb] at hr
  exact hr

theorem rint_range (w : World) (rb : Nat) (rv : Value) (v low high : Int) (h : Rd w rb rv (enc (zz v)) 0) (hv : Hid (-9223372036854775808 ≤ v ∧ v < 9223372036854775808)) (hb : ¬ high < low) (hr : v < low ∨ high < v) :
    Calls Try.prog 13 #[.pointer (some ⟨rb, 0, none⟩), .int .i64 low, .int .i64 high] w fun e w' =>
      e = .returned (.int .i64 0) ∧ ∃ v', Rd w' rb v' (enc (zz v)) 2 ∧ v'.ownBlock = rv.ownBlock ∧ Kept (fun k => k = rb) w w' := by
  have hr' := rint_any w rb rv _ 0 low high h (enc_byte _)
  rw [intS_enc v _ _ hv.out, if_neg hb, if_pos hr] at hr'
  exact hr'

theorem rint_ok (w : World) (rb : Nat) (rv : Value) (v low high : Int) (h : Rd w rb rv (enc (zz v)) 0) (hv : Hid (-9223372036854775808 ≤ v ∧ v < 9223372036854775808)) (hb : ¬ high < low) (hr : ¬ (v < low ∨ high < v)) :
    Calls Try.prog 13 #[.pointer (some ⟨rb, 0, none⟩), .int .i64 low, .int .i64 high] w fun e w' =>
      e = .returned (.int .i64 v) ∧ ∃ v', Rd w' rb v' [] 0 ∧ v'.ownBlock = rv.ownBlock ∧ Kept (fun k => k = rb) w w' := by
  have hr' := rint_any w rb rv _ 0 low high h (enc_byte _)
  rw [intS_enc v _ _ hv.out, if_neg hb, if_neg hr] at hr'
  exact hr'

set_option maxRecDepth 100000 in
set_option maxHeartbeats 3200000 in
theorem ints_any (v low high : Int) (w : World) (hv : Hid (-9223372036854775808 ≤ v ∧ v < 9223372036854775808)) :
    Calls Try.prog 3 #[.int .i64 v, .agg #[.int .i64 low, .int .i64 high]] w fun e w' => e = .returned (.bool true) ∧ Below w.heap.size w w' := by
  have hlen := enc_len (zz_lt v hv.out)
  have hpos := enc_pos (zz v)
  go_enter Try.func3, Try.ntmps3
  go_wp2_with fail
  refine (awake_any _).mono ?_
  rintro e w0 ⟨rfl, hka⟩
  go_wp2_with fail
  refine (newWriter_any w0).mono ?_
  rintro e w1 ⟨rfl, hw1⟩
  have hwr1 : Wr w1 w0.heap.size (.slice none 0 0) w0.heap.size [] := by rw [hw1]; exact wr_new w0 w0.heap.size (Nat.le_refl _)
  have hk1 : Kept (fun _ => False) w0 w1 := by rw [hw1]; exact Kept.alloc _ _ _
  clear hw1
  go_wp2_with fail
  refine (int_any v w1 w0.heap.size _ w0.heap.size [] hwr1 (by simp) hv).mono ?_
  rintro e w2 ⟨rfl, v2, hwr2, hs2⟩
  rw [List.nil_append] at hwr2
  have hkb2 : Kept (fun _ => False) (w.alloc (.cells #[.int .i64 low, .int .i64 high] 23)) w2 := hka.then (hk1.trans hs2.kept (fun _ _ h => h) fun i hi h => by
    rcases h with h | h
    · omega
    · simp [blk, Value.ownBlock] at h)
  go_wp2_with fail
  refine (out_any w2 w0.heap.size v2 _ hwr2.reads (by omega) hwr2.cell).mono ?_
  rintro e w3 ⟨p, rfl, hf3, hk3⟩
  obtain ⟨pa, pc, hpf⟩ := own_form hf3.own
  obtain ⟨N, hN⟩ : ∃ N, N = (enc (zz v)).length := ⟨_, rfl⟩
  rw [← hN] at hpf
  have HN := Lib.hid hN; clear hN
  have hp3 := hf3.reads
  rw [hpf] at hp3 ⊢
  have hkb3 := hkb2.then hk3
  clear hpf hf3 hk3 hs2 hwr1 hwr2 hka hk1 hkb2
  go_wp2_with fail
  refine (newReader_any w3 _ _ hp3 (by omega)).mono ?_
  rintro e w4 ⟨rb, rv, rfl, hrd4, hrb4, hrv4, hk4⟩
  have hp4 := hp3.kept hk4 (fun _ _ h => h)
  go_wp2_with fail
  refine (newReader_any w4 _ _ hp4 (by omega)).mono ?_
  rintro e w5 ⟨sb, sv, rfl, hsd5, hsb5, hsv5, hk5⟩
  have hp5 := hp4.kept hk5 (fun _ _ h => h)
  have hrd5 := hrd4.kept hk5 (fun h => h) (fun _ _ h => h)
  have hrblt := hrd4.lt
  have hrvlt := hrd4.reads.lt
  have hplt := hp3.lt
  have hkb5 := (hkb3.then hk4).then hk5
  obtain ⟨b50, b51, hbx⟩ := box_cells hkb5 (fun h => h)
  obtain ⟨_, _, hbx3⟩ := box_cells hkb3 (fun h => h)
  have s4 := hk4.size
  have s5 := hk5.size
  clear hkb3 hk4 hp3 hp4 hrd4 hrv4
  have HRV := Lib.hid hrvlt; have HPL := Lib.hid hplt; have HSV := Lib.hid hsv5; clear hrvlt hplt hsv5
  go_wp2_with fail
  have HB0 := Lib.hid b50; have HB1 := Lib.hid b51
  have HSD := fun (W : World) (hk : Kept (fun k => k = rb) w5.drew W) => hsd5.drew.kept hk (by omega) (fun k hk' e => by have := HSV.out k hk'; omega)
  have HSDH := Lib.hid HSD; clear HSD
  have hfin : ∀ (W6 W7 : World), Kept (fun k => k = rb) w5.drew W6 → Kept (fun k => k = sb) W6 W7 → ∀ (rv6 : Value), rv6.ownBlock = rv.ownBlock → Rd W6 rb rv6 [] 0 →
      Kept (fun _ => False) w W7 ∧ Reads W7 (.slice pa N pc) (enc (zz v)) ∧ Rd W7 rb rv6 [] 0 := by
    intro W6 W7 h6 h7 rv6 hrv6 hrd6
    have s6 := h6.size
    simp at s6
    have hkw5 : Kept (fun _ => False) w w5 := (Kept.alloc (fun _ => False) w _).then hkb5
    have hp5' : Reads w5.drew (.slice pa N pc) (enc (zz v)) := hp5
    refine ⟨(hkw5.drew.trans h6 (fun _ _ h => h) fun i hi h => by omega).trans h7 (fun _ _ h => h) fun i hi h => by omega, ?_, ?_⟩
    · exact (hp5'.kept h6 (fun k hk e => by have := HPL.out k hk; omega)).kept h7 (fun k hk e => by have := HPL.out k hk; omega)
    · exact hrd6.kept h7 (by omega) (fun k hk e => by rw [hrv6] at hk; have := HRV.out k hk; omega)
  have HFIN := Lib.hid hfin; clear hfin hkb5 hp5 hk5
  by_cases hc1 : high < low
  · go_region_held3 (fun w' => w'.cell? ⟨w.heap.size, 0, none⟩ = some (.int .i64 low) ∧ w'.cell? ⟨w.heap.size, 1, none⟩ = some (.int .i64 high))
      (first | go_keep)
      ((first | (go_at_call 13; (with_reducible refine (rint_max _ rb rv v (by exact hrd5.drew) hv).mono ?_); rintro e w6 ⟨rfl, rv6, hrd6, hrv6, hk6⟩; have HK6 := Lib.hid hk6; have HRV6 := Lib.hid hrv6; have HRD6 := Lib.hid hrd6; have hsd6 := HSDH.out w6 hk6; have b60 := (hk6.cell (p := ⟨w.heap.size, 0, none⟩) (by simp; omega) (by simp; omega)).trans HB0.out; have b61 := (hk6.cell (p := ⟨w.heap.size, 1, none⟩) (by simp; omega) (by simp; omega)).trans HB1.out; have C60 := Lib.hid b60; have C61 := Lib.hid b61; have s6 : w5.heap.size ≤ w6.heap.size := hk6.size; clear hk6 hrv6 hrd6) | (go_at_call 13; refine (rint_args _ sb sv v low high (by exact hsd6) hv (by omega)).mono ?_; rintro e w7 ⟨rfl, sv7, hsd7, hsv7, hk7⟩; have b70 := (hk7.cell (p := ⟨w.heap.size, 0, none⟩) (by simp; omega) (by simp; omega)).trans C60.out; have b71 := (hk7.cell (p := ⟨w.heap.size, 1, none⟩) (by simp; omega) (by simp; omega)).trans C61.out; have HK7 := Lib.hid hk7; clear hk7 hsv7)))
    obtain ⟨hkw7, hp7, hrd7⟩ := HFIN.out w6 w7 HK6.out HK7.out rv6 HRV6.out HRD6.out
    clear HFIN HSDH hsd6 HK6 HK7 HRD6 HRV6 C60 C61 b60 b61 b50 b51 HB0 HB1 hrd5 hsd5
    have B70 := Lib.hid b70; have B71 := Lib.hid b71
    go_wp2_with fail
    refine (putInt_any v w7 hv).mono ?_
    rintro e w8 ⟨q, rfl, hf8, hk8⟩
    have hp8 := hp7.kept hk8 (fun _ _ h => h)
    have hrd8 := hrd7.kept hk8 (fun h => h) (fun _ _ h => h)
    have hsd8 := hsd7.kept hk8 (fun h => h) (fun _ _ h => h)
    have hkw8 := hkw7.then hk8
    have b80 := (hk8.cell (p := ⟨w.heap.size, 0, none⟩) (World.block_lt_of_cell? w7 _ b70) (fun h => h)).trans B70.out
    have b81 := (hk8.cell (p := ⟨w.heap.size, 1, none⟩) (World.block_lt_of_cell? w7 _ b71) (fun h => h)).trans B71.out
    clear b70 b71
    go_wp2_with fail
    refine (same_any w8 _ q _ _ hp8 hf8.reads (enc_byte _) (enc_byte _)).mono ?_
    rw [show decide (enc (zz v) = enc (zz v)) = true by simp]
    rintro e w9 ⟨rfl, rfl⟩
    have hE := end_any w8 rb rv6 [] 0 hrd8
    rw [if_neg (by simp)] at hE
    have HE := Lib.hid hE; clear hE
    obtain ⟨sa, sc, hsf⟩ : ∃ a c, sv7 = .slice a N c := by
      rcases hsd8.reads with ⟨h, h2⟩ | ⟨g, off, cap, h, _⟩
      · rw [h2] at hpos; simp at hpos
      · exact ⟨_, _, by rw [h, ← HN.out]⟩
    have c0 := hsd8.cell0
    rw [hsf] at c0
    have c1 := hsd8.cell1
    have C0 := Lib.hid c0; have C1 := Lib.hid c1; clear c0 c1 hsf
    have HKW := Lib.hid hkw8; clear hkw8 hkw7
    clear hp7 hrd7 hsd7 hf8 hk8 hp8 hrd8 hsd8
    go_wp2_with fail
    refine HE.out.mono ?_
    rintro e w9 ⟨rfl, rfl⟩
    go_wp2_with fail
    refine (err_any w8 sb 1 C1.out).mono ?_
    rintro e w9 ⟨rfl, rfl⟩
    go_wp2_with fail
    refine (left_any w8 sb sa N sc C0.out).mono ?_
    rintro e w9 ⟨rfl, rfl⟩
    go_wp2_with fail
    go_ret
    exact ⟨by simp, HKW.out.below (Nat.le_refl _) (fun _ h => h.elim)⟩
  · have hc1' : low ≤ high := by omega
    by_cases hc2 : v < low ∨ high < v
    · have hc3 : v < low ∨ (low ≤ v ∧ high < v) := by omega
      rcases hc3 with hc3 | ⟨hc3, hc4⟩
      all_goals
        go_region_held3 (fun w' => w'.cell? ⟨w.heap.size, 0, none⟩ = some (.int .i64 low) ∧ w'.cell? ⟨w.heap.size, 1, none⟩ = some (.int .i64 high))
          (first | go_keep)
          ((first | (go_at_call 13; (with_reducible refine (rint_max _ rb rv v (by exact hrd5.drew) hv).mono ?_); rintro e w6 ⟨rfl, rv6, hrd6, hrv6, hk6⟩; have HK6 := Lib.hid hk6; have HRV6 := Lib.hid hrv6; have HRD6 := Lib.hid hrd6; have hsd6 := HSDH.out w6 hk6; have b60 := (hk6.cell (p := ⟨w.heap.size, 0, none⟩) (by simp; omega) (by simp; omega)).trans HB0.out; have b61 := (hk6.cell (p := ⟨w.heap.size, 1, none⟩) (by simp; omega) (by simp; omega)).trans HB1.out; have C60 := Lib.hid b60; have C61 := Lib.hid b61; have s6 : w5.heap.size ≤ w6.heap.size := hk6.size; clear hk6 hrv6 hrd6) | (go_at_call 13; refine (rint_range _ sb sv v low high (by exact hsd6) hv (by omega) (by omega)).mono ?_; rintro e w7 ⟨rfl, sv7, hsd7, hsv7, hk7⟩; have b70 := (hk7.cell (p := ⟨w.heap.size, 0, none⟩) (by simp; omega) (by simp; omega)).trans C60.out; have b71 := (hk7.cell (p := ⟨w.heap.size, 1, none⟩) (by simp; omega) (by simp; omega)).trans C61.out; have HK7 := Lib.hid hk7; clear hk7 hsv7)))
        obtain ⟨hkw7, hp7, hrd7⟩ := HFIN.out w6 w7 HK6.out HK7.out rv6 HRV6.out HRD6.out
        clear HFIN HSDH hsd6 HK6 HK7 HRD6 HRV6 C60 C61 b60 b61 b50 b51 HB0 HB1 hrd5 hsd5
        have B70 := Lib.hid b70; have B71 := Lib.hid b71
        go_wp2_with fail
        refine (putInt_any v w7 hv).mono ?_
        rintro e w8 ⟨q, rfl, hf8, hk8⟩
        have hp8 := hp7.kept hk8 (fun _ _ h => h)
        have hrd8 := hrd7.kept hk8 (fun h => h) (fun _ _ h => h)
        have hsd8 := hsd7.kept hk8 (fun h => h) (fun _ _ h => h)
        have hkw8 := hkw7.then hk8
        have b80 := (hk8.cell (p := ⟨w.heap.size, 0, none⟩) (World.block_lt_of_cell? w7 _ b70) (fun h => h)).trans B70.out
        have b81 := (hk8.cell (p := ⟨w.heap.size, 1, none⟩) (World.block_lt_of_cell? w7 _ b71) (fun h => h)).trans B71.out
        clear b70 b71
        go_wp2_with fail
        refine (same_any w8 _ q _ _ hp8 hf8.reads (enc_byte _) (enc_byte _)).mono ?_
        rw [show decide (enc (zz v) = enc (zz v)) = true by simp]
        rintro e w9 ⟨rfl, rfl⟩
        have hE := end_any w8 rb rv6 [] 0 hrd8
        rw [if_neg (by simp)] at hE
        have HE := Lib.hid hE; clear hE
        obtain ⟨sa, sc, hsf⟩ : ∃ a c, sv7 = .slice a N c := by
          rcases hsd8.reads with ⟨h, h2⟩ | ⟨g, off, cap, h, _⟩
          · rw [h2] at hpos; simp at hpos
          · exact ⟨_, _, by rw [h, ← HN.out]⟩
        have c0 := hsd8.cell0
        rw [hsf] at c0
        have c1 := hsd8.cell1
        have C0 := Lib.hid c0; have C1 := Lib.hid c1; clear c0 c1 hsf
        have HKW := Lib.hid hkw8; clear hkw8 hkw7
        clear hp7 hrd7 hsd7 hf8 hk8 hp8 hrd8 hsd8
        go_wp2_with fail
        refine HE.out.mono ?_
        rintro e w9 ⟨rfl, rfl⟩
        go_wp2_with fail
        refine (err_any w8 sb 2 C1.out).mono ?_
        rintro e w9 ⟨rfl, rfl⟩
        go_wp2_with fail
        refine (left_any w8 sb sa N sc C0.out).mono ?_
        rintro e w9 ⟨rfl, rfl⟩
        go_wp2_with fail
        go_ret
        exact ⟨by simp, HKW.out.below (Nat.le_refl _) (fun _ h => h.elim)⟩
    · have hc3 : low ≤ v := by omega
      have hc4 : v ≤ high := by omega
      go_region_held3 (fun w' => w'.cell? ⟨w.heap.size, 0, none⟩ = some (.int .i64 low) ∧ w'.cell? ⟨w.heap.size, 1, none⟩ = some (.int .i64 high))
        (first | go_keep)
        ((first | (go_at_call 13; (with_reducible refine (rint_max _ rb rv v (by exact hrd5.drew) hv).mono ?_); rintro e w6 ⟨rfl, rv6, hrd6, hrv6, hk6⟩; have HK6 := Lib.hid hk6; have HRV6 := Lib.hid hrv6; have HRD6 := Lib.hid hrd6; have hsd6 := HSDH.out w6 hk6; have b60 := (hk6.cell (p := ⟨w.heap.size, 0, none⟩) (by simp; omega) (by simp; omega)).trans HB0.out; have b61 := (hk6.cell (p := ⟨w.heap.size, 1, none⟩) (by simp; omega) (by simp; omega)).trans HB1.out; have C60 := Lib.hid b60; have C61 := Lib.hid b61; have s6 : w5.heap.size ≤ w6.heap.size := hk6.size; clear hk6 hrv6 hrd6) | (go_at_call 13; refine (rint_ok _ sb sv v low high (by exact hsd6) hv (by omega) (by omega)).mono ?_; rintro e w7 ⟨rfl, sv7, hsd7, hsv7, hk7⟩; have b70 := (hk7.cell (p := ⟨w.heap.size, 0, none⟩) (by simp; omega) (by simp; omega)).trans C60.out; have b71 := (hk7.cell (p := ⟨w.heap.size, 1, none⟩) (by simp; omega) (by simp; omega)).trans C61.out; have HK7 := Lib.hid hk7; clear hk7 hsv7)))
      obtain ⟨hkw7, hp7, hrd7⟩ := HFIN.out w6 w7 HK6.out HK7.out rv6 HRV6.out HRD6.out
      clear HFIN HSDH hsd6 HK6 HK7 HRD6 HRV6 C60 C61 b60 b61 b50 b51 HB0 HB1 hrd5 hsd5
      have B70 := Lib.hid b70; have B71 := Lib.hid b71
      go_wp2_with fail
      refine (putInt_any v w7 hv).mono ?_
      rintro e w8 ⟨q, rfl, hf8, hk8⟩
      have hp8 := hp7.kept hk8 (fun _ _ h => h)
      have hrd8 := hrd7.kept hk8 (fun h => h) (fun _ _ h => h)
      have hsd8 := hsd7.kept hk8 (fun h => h) (fun _ _ h => h)
      have hkw8 := hkw7.then hk8
      have b80 := (hk8.cell (p := ⟨w.heap.size, 0, none⟩) (World.block_lt_of_cell? w7 _ b70) (fun h => h)).trans B70.out
      have b81 := (hk8.cell (p := ⟨w.heap.size, 1, none⟩) (World.block_lt_of_cell? w7 _ b71) (fun h => h)).trans B71.out
      clear b70 b71
      go_wp2_with fail
      refine (same_any w8 _ q _ _ hp8 hf8.reads (enc_byte _) (enc_byte _)).mono ?_
      rw [show decide (enc (zz v) = enc (zz v)) = true by simp]
      rintro e w9 ⟨rfl, rfl⟩
      have hE := end_any w8 rb rv6 [] 0 hrd8
      rw [if_neg (by simp)] at hE
      have HE := Lib.hid hE; clear hE
      have hE2 := end_any w8 sb sv7 [] 0 hsd8
      rw [if_neg (by simp)] at hE2
      have HE2 := Lib.hid hE2; clear hE2
      have HKW := Lib.hid hkw8; clear hkw8 hkw7
      clear hp7 hrd7 hsd7 hf8 hk8 hp8 hrd8 hsd8
      go_wp2_with fail
      refine HE.out.mono ?_
      rintro e w9 ⟨rfl, rfl⟩
      go_wp2_with fail
      refine HE2.out.mono ?_
      rintro e w9 ⟨rfl, rfl⟩
      go_wp2_with fail
      go_ret
      exact ⟨by simp, HKW.out.below (Nat.le_refl _) (fun _ h => h.elim)⟩

end Go.Proofs.Ytknphfednknajab
