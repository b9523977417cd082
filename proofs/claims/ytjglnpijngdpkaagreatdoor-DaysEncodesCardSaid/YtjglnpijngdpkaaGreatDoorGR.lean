import Derived.Test.YtjglnpijngdpkaaGreatDoorCore
import Derived.Test.YtjglnpijngdpkaaGreatDoorGW
import Derived.Test.YtjglnpijngdpkaaGreatDoorRows
import Derived.Outline
import Derived.WalkLawsBesides
import Derived.WalkSpells
import Derived.BigQuiet
import Derived.IntWalk
/-
  wire.number: what it returns for bytes that a slice holds.
-/
namespace Go.Proofs.YtjglnpijngdpkaaGreatDoor
open Go.RowKit

set_option maxRecDepth 100000 in
set_option maxHeartbeats 800000 in
theorem number_at (xs : List Nat) (g off cap : Nat) (w : World) (hcap : xs.length ≤ cap) (hm : cap ≤ maxLen) (hby : Hid (∀ b ∈ xs, b < 256))
    (hc : Hid (∀ i, i < xs.length → w.cell? ⟨g, off + i, none⟩ = some (.int .u8 (xs.getD i 0 : Nat)))) (hfirst : Hid (¬ (1 < xs.length ∧ xs.getD 0 0 = 128))) :
    Calls Tryz.prog 67 #[.slice (some ⟨g, off, none⟩) xs.length cap] w fun e w' => e = .returned (.tuple #[.int .u64 (numberS xs).1, .int .i64 (numberS xs).2]) ∧ w = w' := by
  have hl : xs.length ≤ 9223372036854775807 := by unfold maxLen at hm; omega
  clear hm
  have H0 : ¬ 1 < xs.length ∨ ∃ b0 : Nat, 1 < xs.length ∧ w.cell? ⟨g, off, none⟩ = some (.int .u8 b0) ∧ ((b0 : Int) == 128) = false := by
    by_cases h1 : 1 < xs.length
    · have c0 := hc.out 0 (by omega)
      rw [Nat.add_zero] at c0
      have hne : ((xs.getD 0 0 : Nat) : Int) ≠ 128 := by have := hfirst.out; omega
      exact Or.inr ⟨_, h1, c0, by simpa using hne⟩
    · exact Or.inl h1
  rcases H0 with h1 | ⟨b0, h1, c0, hne'⟩
  all_goals
    go_enter Tryz.func67, Tryz.ntmps67
    go_wp2_with fail
    go_loop [4, 18] (fun v i => ∃ k x : Nat, k ≤ xs.length ∧ i = .int .i64 k ∧ v = .int .u64 x ∧ Hid (x < 18446744073709551616) ∧ Hid (numLoop x k (xs.drop k) = numLoop 0 0 xs)) (fun _ i => xs.length - (intOf i).toNat)
    case atStart => exact ⟨0, 0, Nat.zero_le _, rfl, rfl, by show (0 : Nat) < 18446744073709551616; omega, rfl⟩
    case round =>
      obtain ⟨k, x, hk, rfl, rfl, hx, hr⟩ := hrel
      by_cases hlt : k < xs.length
      · have ck := hc.out k hlt
        have hb : Hid (xs.getD k 0 < 256) := hby.out _ (by rw [List.getD_eq_getElem?_getD, List.getElem?_eq_getElem hlt]; exact List.getElem_mem _)
        have hd : Hid (xs.drop k = xs.getD k 0 :: xs.drop (k + 1)) := by
          show _ = _
          rw [List.getD_eq_getElem?_getD, List.getElem?_eq_getElem hlt]; exact List.drop_eq_getElem_cons hlt
        generalize xs.getD k 0 = b at ck hb hd
        have hnum : ¬ (1 < xs.length ∧ xs.getD 0 0 = 128) → numberS xs = numLoop 0 0 xs := fun h => if_neg h
        have HN : Hid (numberS xs = numLoop x k (b :: xs.drop (k + 1))) := by show _ = _; rw [hnum hfirst.out, ← hr.out, hd.out]
        clear hnum
        by_cases hx0 : x / 144115188075855872 = 0
        · have HX := Lib.hid hx0
          obtain ⟨y, hy⟩ : ∃ y : Nat, y = x * 128 + b % 128 := ⟨_, rfl⟩
          have hv := group_in x b y hx0 hb.out hy
          have HY := Lib.hid hy; clear hy
          have ht : ((x : Int) / 144115188075855872 != 0) = false := by simp; omega
          clear hx0
          by_cases hb1 : (b : Int) < 128
          · have HF : Hid (numberS xs = (y, k + 1)) := by
              show _ = _
              rw [HN.out, numLoop, if_neg (by rw [HX.out]; simp), if_pos (by omega), HY.out]
            go_wp2_with fail
            go_ret2
            rw [HF.out]
            exact ⟨rfl, rfl⟩
          · go_wp2_with fail
            go_round
            case rel =>
              refine ⟨k + 1, y, by omega, by go_num, rfl, ?_, ?_⟩
              · have := HX.out; have := HY.out
                show y < 18446744073709551616
                omega
              · show _ = _
                rw [← hr.out, hd.out, numLoop, if_neg (by rw [HX.out]; simp), if_neg (by omega), HY.out]
            case measure => simp [intOf]; omega
        · have ht : ((x : Int) / 144115188075855872 != 0) = true := by simp; omega
          have HF : Hid (numberS xs = (0, 0)) := by
            show _ = _
            rw [HN.out, numLoop, if_pos hx0]
          clear hx0
          go_wp2_with fail
          go_ret2
          rw [HF.out]
          exact ⟨rfl, rfl⟩
      · have HF : Hid (numberS xs = (0, 0)) := by
          show _ = _
          rw [show numberS xs = numLoop 0 0 xs from if_neg hfirst.out, ← hr.out, List.drop_eq_nil_of_le (by omega), numLoop]
        go_wp2_with fail
        go_ret2
        rw [HF.out]
        exact ⟨rfl, rfl⟩

set_option maxRecDepth 100000 in
set_option maxHeartbeats 800000 in
theorem number_nil (w : World) :
    Calls Tryz.prog 67 #[.slice none 0 0] w fun e w' => e = .returned (.tuple #[.int .u64 0, .int .i64 0]) ∧ w = w' := by
  go_enter Tryz.func67, Tryz.ntmps67
  go_wp2_with fail
  go_loop [4, 18] (fun v i => v = .int .u64 0 ∧ i = .int .i64 0) (fun _ _ => 0)
  case atStart => exact ⟨rfl, rfl⟩
  case round =>
    obtain ⟨rfl, rfl⟩ := hrel
    go_wp2_with fail
    go_ret2
    exact ⟨rfl, rfl⟩

set_option maxRecDepth 100000 in
set_option maxHeartbeats 800000 in
theorem number_128 (len g off cap : Nat) (w : World) (h1 : 1 < len) (hl : len ≤ 9223372036854775807) (hc : w.cell? ⟨g, off, none⟩ = some (.int .u8 128)) :
    Calls Tryz.prog 67 #[.slice (some ⟨g, off, none⟩) len cap] w fun e w' => e = .returned (.tuple #[.int .u64 0, .int .i64 0]) ∧ w = w' := by
  go_enter Tryz.func67, Tryz.ntmps67
  go_wp2_with fail
  go_ret2
  exact ⟨rfl, rfl⟩

/-- What 'number' returns for bytes that a value reads as. -/
theorem number_any (v : Value) (xs : List Nat) (w : World) (h : Reads w v xs) (hby : ∀ b ∈ xs, b < 256) :
    Calls Tryz.prog 67 #[v] w fun e w' => e = .returned (.tuple #[.int .u64 (numberS xs).1, .int .i64 (numberS xs).2]) ∧ w = w' := by
  rcases h with ⟨rfl, rfl⟩ | ⟨g, off, cap, rfl, h1, h2, h3, h4⟩
  · exact number_nil w
  · by_cases hf : 1 < xs.length ∧ xs.getD 0 0 = 128
    · have e : numberS xs = (0, 0) := if_pos hf
      rw [e]
      have c0 := h4 0 (by omega)
      rw [hf.2, Nat.add_zero] at c0
      exact number_128 _ g off cap w hf.1 (by unfold maxLen at h2; omega) c0
    · exact number_at xs g off cap w h1 h2 hby h4 hf

end Go.Proofs.YtjglnpijngdpkaaGreatDoor
/-
  wire.Reader: ready, take, Err, Left.
-/
namespace Go.Proofs.YtjglnpijngdpkaaGreatDoor
open Go.RowKit

set_option maxRecDepth 100000 in
theorem ready_yes (w : World) (rb : Nat) (hc : w.cell? ⟨rb, 1, none⟩ = some (.int .i64 0)) :
    Calls Tryz.prog 54 #[.pointer (some ⟨rb, 0, none⟩)] w fun e w' => e = .returned (.bool true) ∧ w = w' := by
  go_enter Tryz.func54, Tryz.ntmps54
  go_wp2_with fail
  go_ret
  exact ⟨rfl, rfl⟩

set_option maxRecDepth 100000 in
theorem ready_no (w : World) (rb : Nat) (err : Int) (he : err ≠ 0) (hc : w.cell? ⟨rb, 1, none⟩ = some (.int .i64 err)) :
    Calls Tryz.prog 54 #[.pointer (some ⟨rb, 0, none⟩)] w fun e w' => e = .returned (.bool false) ∧ w = w' := by
  have hb : (err == 0) = false := by simpa using he
  go_enter Tryz.func54, Tryz.ntmps54
  go_wp2_with fail
  go_ret
  exact ⟨rfl, rfl⟩

set_option maxRecDepth 100000 in
theorem err_any (w : World) (rb : Nat) (err : Int) (hc : w.cell? ⟨rb, 1, none⟩ = some (.int .i64 err)) :
    Calls Tryz.prog 55 #[.pointer (some ⟨rb, 0, none⟩)] w fun e w' => e = .returned (.int .i64 err) ∧ w = w' := by
  go_enter Tryz.func55, Tryz.ntmps55
  go_wp2_with fail
  go_ret
  exact ⟨rfl, rfl⟩

set_option maxRecDepth 100000 in
set_option maxHeartbeats 400000 in
theorem take_at (w : World) (rb g off len cap n : Nat) (hl : len ≤ cap) (hm : cap ≤ 9223372036854775807) (hn : n ≤ len) (hc : w.cell? ⟨rb, 0, none⟩ = some (.slice (some ⟨g, off, none⟩) len cap)) (hf : w.frozen? ⟨rb, 0, none⟩ = false) :
    Calls Tryz.prog 68 #[.pointer (some ⟨rb, 0, none⟩), .int .i64 n] w fun e w' => e = .returned (.slice (some ⟨g, off, none⟩) n cap) ∧
      w' = w.setCell ⟨rb, 0, none⟩ (.slice (some ⟨g, if n = cap then off else off + n, none⟩) (len - n) (cap - n)) := by
  have hn0 : (0 : Int) ≤ (n : Int) := by omega
  have hn1 : (n : Int) ≤ (len : Int) := by omega
  by_cases hnc : n = cap
  · have hnc1 : cap = n := hnc.symm
    have hln : len = n := by omega
    subst hnc1 hln
    rw [if_pos rfl, Nat.sub_self]
    go_enter Tryz.func68, Tryz.ntmps68
    go_wp2_with fail
    go_ret
    exact ⟨rfl, rfl⟩
  · rw [if_neg hnc]
    have hnc' : ¬ cap = n := by omega
    clear hnc
    go_enter Tryz.func68, Tryz.ntmps68
    go_wp2_with fail
    go_ret
    exact ⟨rfl, rfl⟩

set_option maxRecDepth 100000 in
set_option maxHeartbeats 400000 in
theorem take_nil (w : World) (rb : Nat) (hc : w.cell? ⟨rb, 0, none⟩ = some (.slice none 0 0)) (hf : w.frozen? ⟨rb, 0, none⟩ = false) :
    Calls Tryz.prog 68 #[.pointer (some ⟨rb, 0, none⟩), .int .i64 0] w fun e w' => e = .returned (.slice none 0 0) ∧ w' = w.setCell ⟨rb, 0, none⟩ (.slice none 0 0) := by
  go_enter Tryz.func68, Tryz.ntmps68
  go_wp2_with fail
  go_ret
  exact ⟨rfl, rfl⟩

/-- 'take' of n bytes that are there. -/
theorem take_any (w : World) (rb : Nat) (v : Value) (xs : List Nat) (err : Int) (n : Nat) (h : Rd w rb v xs err) (hn : n ≤ xs.length) :
    Calls Tryz.prog 68 #[.pointer (some ⟨rb, 0, none⟩), .int .i64 n] w fun e w' => ∃ p v', e = .returned p ∧ Rd w' rb v' (xs.drop n) err ∧ Reads w' p (xs.take n) ∧
      v'.ownBlock = v.ownBlock ∧ p.ownBlock = v.ownBlock ∧ Kept (fun k => k = rb) w w' := by
  rcases h.reads with ⟨rfl, rfl⟩ | ⟨g, off, cap, rfl, h1, h2, h3, h4⟩
  · have hn0 : n = 0 := by simpa using hn
    subst hn0
    refine (take_nil w rb h.cell0 h.free0).mono ?_
    rintro e w' ⟨rfl, rfl⟩
    exact ⟨_, _, rfl, h.setLeft (Or.inl ⟨rfl, rfl⟩) (by simp [Value.ownBlock]), Or.inl ⟨rfl, rfl⟩, rfl, rfl, Kept.setCell _ _ _ _ rfl⟩
  · refine (take_at w rb g off xs.length cap n h1 (by unfold maxLen at h2; omega) hn h.cell0 h.free0).mono ?_
    rintro e w' ⟨rfl, rfl⟩
    have hk := Kept.setCell (fun k => k = rb) w ⟨rb, 0, none⟩ (.slice (some ⟨g, if n = cap then off else off + n, none⟩) (xs.length - n) (cap - n)) rfl
    have hap : g ≠ rb := fun e => h.apart (by simp [Value.ownBlock, e])
    have hr : Reads w (.slice (some ⟨g, if n = cap then off else off + n, none⟩) (xs.length - n) (cap - n)) (xs.drop n) := by
      by_cases hnc : n = cap
      · rw [if_pos hnc]
        refine Or.inr ⟨g, off, cap - n, by simp, by simp; omega, by omega, h3, fun i hi => ?_⟩
        simp at hi; omega
      · rw [if_neg hnc]
        exact Reads.drop n h.reads hn
    exact ⟨_, _, rfl, h.setLeft hr (by simpa [Value.ownBlock] using hap), (Reads.take n h.reads hn).kept hk (by simpa [Value.ownBlock] using hap), rfl, rfl, hk⟩

end Go.Proofs.YtjglnpijngdpkaaGreatDoor
/-
  wire.Reader: bounded, Uint, End.
-/
namespace Go.Proofs.YtjglnpijngdpkaaGreatDoor
open Go.RowKit

/-- What 'bounded' gives: the number, the bytes that are left, the error. -/
def boundedS (xs : List Nat) (most : Nat) (above err : Int) : Nat × List Nat × Int :=
  if (numberS xs).2 = 0 then (0, xs, 6) else if most < (numberS xs).1 then (0, xs, above) else ((numberS xs).1, xs.drop (numberS xs).2, err)

set_option maxRecDepth 100000 in
set_option maxHeartbeats 800000 in
theorem bounded_any (w : World) (rb : Nat) (v : Value) (xs : List Nat) (err above : Int) (most : Nat) (h : Rd w rb v xs err) (hby : ∀ b ∈ xs, b < 256) :
    Calls Tryz.prog 48 #[.pointer (some ⟨rb, 0, none⟩), .int .u64 most, .int .i64 above] w fun e w' =>
      e = .returned (.int .u64 (boundedS xs most above err).1) ∧ ∃ v', Rd w' rb v' (boundedS xs most above err).2.1 (boundedS xs most above err).2.2 ∧ v'.ownBlock = v.ownBlock ∧ Kept (fun k => k = rb) w w' := by
  have hcall := number_any v xs w h.reads hby
  have hle := numberS_le xs
  have hB : boundedS xs most above err = if (numberS xs).2 = 0 then (0, xs, 6) else if most < (numberS xs).1 then (0, xs, above) else ((numberS xs).1, xs.drop (numberS xs).2, err) := rfl
  generalize numberS xs = q at hcall hle hB
  obtain ⟨x, n⟩ := q
  simp only at hcall hle hB
  have HC := Lib.hid hcall; clear hcall
  have c0 := h.cell0; have c1 := h.cell1; have f1 := h.free1; have hlt := h.lt
  have HH := Lib.hid h; clear h
  have HY := Lib.hid hby; clear hby
  by_cases hn : n = 0
  · subst hn
    rw [if_pos rfl] at hB
    rw [hB]
    clear hB
    go_enter Tryz.func48, Tryz.ntmps48
    go_wp2_with fail
    refine HC.out.mono ?_
    rintro e w' ⟨rfl, rfl⟩
    go_wp2_with fail
    go_ret
    exact ⟨rfl, v, HH.out.setErr 6, rfl, Kept.setCell _ _ _ _ rfl⟩
  · rw [if_neg hn] at hB
    have hn' : ((n : Int) == 0) = false := by simp; omega
    have HN := Lib.hid hn; clear hn
    by_cases hx : most < x
    · rw [if_pos hx] at hB
      rw [hB]
      clear hB
      go_enter Tryz.func48, Tryz.ntmps48
      go_wp2_with fail
      refine HC.out.mono ?_
      rintro e w' ⟨rfl, rfl⟩
      go_wp2_with fail
      go_ret
      exact ⟨rfl, v, HH.out.setErr above, rfl, Kept.setCell _ _ _ _ rfl⟩
    · rw [if_neg hx] at hB
      rw [hB]
      clear hB
      go_enter Tryz.func48, Tryz.ntmps48
      go_wp2_with fail
      refine HC.out.mono ?_
      rintro e w' ⟨rfl, rfl⟩
      go_wp2_with fail
      refine (take_any w rb v xs err n HH.out hle).mono ?_
      rintro e w1 ⟨p, v', rfl, hr, hp, hv, hpv, hk⟩
      have HV := Lib.hid hv; clear hv
      have HPV := Lib.hid hpv; clear hpv
      go_wp2_with fail
      go_ret
      exact ⟨rfl, v', hr, HV.out, hk⟩

/-- What 'Uint' gives. -/
def uintS (xs : List Nat) (most : Nat) (err : Int) : Nat × List Nat × Int := if err = 0 then boundedS xs most 2 0 else (0, xs, err)

set_option maxRecDepth 100000 in
set_option maxHeartbeats 800000 in
theorem end_any (w : World) (rb : Nat) (v : Value) (xs : List Nat) (err : Int) (h : Rd w rb v xs err) :
    Calls Tryz.prog 25 #[.pointer (some ⟨rb, 0, none⟩)] w fun e w' => e = .returned (.int .i64 (if err = 0 ∧ 0 < xs.length then 6 else err)) ∧ w = w' := by
  have c1 := h.cell1
  obtain ⟨a, c, c0⟩ : ∃ a c, w.cell? ⟨rb, 0, none⟩ = some (.slice a xs.length c) := by
    rcases h.reads with ⟨rfl, rfl⟩ | ⟨g, off, cap, rfl, _⟩
    · exact ⟨none, 0, h.cell0⟩
    · exact ⟨_, _, h.cell0⟩
  clear h
  generalize xs.length = len at c0
  by_cases he : err = 0
  · subst he
    by_cases hl : 0 < len
    · rw [if_pos ⟨rfl, hl⟩]
      go_enter Tryz.func25, Tryz.ntmps25
      go_wp2_with fail
      refine (ready_yes w rb c1).mono ?_
      rintro e w' ⟨rfl, rfl⟩
      go_wp2_with fail
      go_ret
      exact ⟨rfl, rfl⟩
    · rw [if_neg (fun h => hl h.2)]
      go_enter Tryz.func25, Tryz.ntmps25
      go_wp2_with fail
      refine (ready_yes w rb c1).mono ?_
      rintro e w' ⟨rfl, rfl⟩
      go_wp2_with fail
      refine (err_any w rb 0 c1).mono ?_
      rintro e w' ⟨rfl, rfl⟩
      go_wp2_with fail
      go_ret
      exact ⟨rfl, rfl⟩
  · rw [if_neg (fun h => he h.1)]
    go_enter Tryz.func25, Tryz.ntmps25
    go_wp2_with fail
    refine (ready_no w rb err he c1).mono ?_
    rintro e w' ⟨rfl, rfl⟩
    go_wp2_with fail
    refine (err_any w rb err c1).mono ?_
    rintro e w' ⟨rfl, rfl⟩
    go_wp2_with fail
    go_ret
    exact ⟨rfl, rfl⟩

end Go.Proofs.YtjglnpijngdpkaaGreatDoor
/-
  wire.Reader: Fail, readyFor, piece.
-/
namespace Go.Proofs.YtjglnpijngdpkaaGreatDoor
open Go.RowKit

set_option maxRecDepth 100000 in
theorem fail_set (w : World) (rb : Nat) (e : Int) (hc : w.cell? ⟨rb, 1, none⟩ = some (.int .i64 0)) (hf : w.frozen? ⟨rb, 1, none⟩ = false) :
    Calls Tryz.prog 69 #[.pointer (some ⟨rb, 0, none⟩), .int .i64 e] w fun e' w' => e' = .returned (.tuple #[]) ∧ w' = w.setCell ⟨rb, 1, none⟩ (.int .i64 e) := by
  go_enter Tryz.func69, Tryz.ntmps69
  go_wp2_with fail
  refine (ready_yes w rb hc).mono ?_
  rintro e w' ⟨rfl, rfl⟩
  go_wp2
  go_end0
  exact ⟨rfl, rfl⟩

set_option maxRecDepth 100000 in
theorem fail_stays (w : World) (rb : Nat) (e err : Int) (he : err ≠ 0) (hc : w.cell? ⟨rb, 1, none⟩ = some (.int .i64 err)) :
    Calls Tryz.prog 69 #[.pointer (some ⟨rb, 0, none⟩), .int .i64 e] w fun e' w' => e' = .returned (.tuple #[]) ∧ w = w' := by
  go_enter Tryz.func69, Tryz.ntmps69
  go_wp2_with fail
  refine (ready_no w rb err he hc).mono ?_
  rintro e w' ⟨rfl, rfl⟩
  go_wp2
  go_end0
  exact ⟨rfl, rfl⟩

/-- The error that 'readyFor' leaves. -/
def forErr (n err : Int) : Int := if n < 0 ∧ err = 0 then 1 else err

set_option maxRecDepth 100000 in
set_option maxHeartbeats 400000 in
theorem readyFor_any (w : World) (rb : Nat) (v : Value) (xs : List Nat) (err n : Int) (h : Rd w rb v xs err) :
    Calls Tryz.prog 47 #[.pointer (some ⟨rb, 0, none⟩), .int .i64 n] w fun e w' =>
      e = .returned (.bool (decide (forErr n err = 0))) ∧ Rd w' rb v xs (forErr n err) ∧ Kept (fun k => k = rb) w w' := by
  have HH := Lib.hid h; clear h
  by_cases hn : n < 0
  · by_cases he : err = 0
    · subst he
      rw [show forErr n 0 = 1 from if_pos ⟨hn, rfl⟩, show decide ((1 : Int) = 0) = false from rfl]
      have HR := HH.out.setErr 1
      go_enter Tryz.func47, Tryz.ntmps47
      go_wp2_with fail
      refine (fail_set w rb 1 HH.out.cell1 HH.out.free1).mono ?_
      rintro e w' ⟨rfl, rfl⟩
      go_wp2_with fail
      refine (ready_no _ rb 1 (by decide) HR.cell1).mono ?_
      rintro e w' ⟨rfl, rfl⟩
      go_wp2_with fail
      go_ret
      exact ⟨rfl, HR, Kept.setCell _ _ _ _ rfl⟩
    · rw [show forErr n err = err from if_neg (fun h => he h.2), show decide (err = 0) = false by simpa using he]
      go_enter Tryz.func47, Tryz.ntmps47
      go_wp2_with fail
      refine (fail_stays w rb 1 err he HH.out.cell1).mono ?_
      rintro e w' ⟨rfl, rfl⟩
      go_wp2_with fail
      refine (ready_no w rb err he HH.out.cell1).mono ?_
      rintro e w' ⟨rfl, rfl⟩
      go_wp2_with fail
      go_ret
      exact ⟨rfl, HH.out, Kept.refl _ _⟩
  · rw [show forErr n err = err from if_neg (fun h => hn h.1)]
    by_cases he : err = 0
    · subst he
      go_enter Tryz.func47, Tryz.ntmps47
      go_wp2_with fail
      refine (ready_yes w rb HH.out.cell1).mono ?_
      rintro e w' ⟨rfl, rfl⟩
      go_wp2_with fail
      go_ret
      exact ⟨rfl, HH.out, Kept.refl _ _⟩
    · rw [show decide (err = 0) = false by simpa using he]
      go_enter Tryz.func47, Tryz.ntmps47
      go_wp2_with fail
      refine (ready_no w rb err he HH.out.cell1).mono ?_
      rintro e w' ⟨rfl, rfl⟩
      go_wp2_with fail
      go_ret
      exact ⟨rfl, HH.out, Kept.refl _ _⟩

/-- What 'piece' gives: the bytes, the bytes that are left, the error. -/
def pieceS (xs : List Nat) (most err : Int) : List Nat × List Nat × Int :=
  if err ≠ 0 then ([], xs, err) else if most < 0 then ([], xs, 1) else if (numberS xs).2 = 0 then ([], xs, 6)
  else if most < ((numberS xs).1 : Int) then ([], xs, 3) else if xs.length - (numberS xs).2 < (numberS xs).1 then ([], xs, 6)
  else ((xs.drop (numberS xs).2).take (numberS xs).1, xs.drop ((numberS xs).2 + (numberS xs).1), 0)

set_option maxRecDepth 100000 in
set_option maxHeartbeats 1600000 in
theorem piece_any (w : World) (rb : Nat) (v : Value) (xs : List Nat) (err most : Int) (h : Rd w rb v xs err) (hby : ∀ b ∈ xs, b < 256) (hmost : Hid (most < 9223372036854775808)) :
    Calls Tryz.prog 46 #[.pointer (some ⟨rb, 0, none⟩), .int .i64 most] w fun e w' => ∃ p v', e = .returned p ∧ Reads w' p (pieceS xs most err).1 ∧ (p.ownBlock = none ∨ p.ownBlock = v.ownBlock) ∧
      Rd w' rb v' (pieceS xs most err).2.1 (pieceS xs most err).2.2 ∧ v'.ownBlock = v.ownBlock ∧ Kept (fun k => k = rb) w w' := by
  have HH := Lib.hid h
  have hrf := readyFor_any w rb v xs err most h
  by_cases he : err = 0 ∧ ¬ most < 0
  · obtain ⟨rfl, hm0⟩ := he
    rw [show forErr most 0 = 0 from if_neg (fun h => hm0 h.1), show decide ((0 : Int) = 0) = true from rfl] at hrf
    have HRF := Lib.hid hrf; clear hrf
    obtain ⟨mn, rfl⟩ := Int.eq_ofNat_of_zero_le (show 0 ≤ most by omega)
    have hP : pieceS xs mn 0 = if (numberS xs).2 = 0 then ([], xs, 6) else if (mn : Int) < ((numberS xs).1 : Int) then ([], xs, 3) else if xs.length - (numberS xs).2 < (numberS xs).1 then ([], xs, 6)
        else ((xs.drop (numberS xs).2).take (numberS xs).1, xs.drop ((numberS xs).2 + (numberS xs).1), 0) := by
      rw [pieceS, if_neg (by simp), if_neg hm0]
    have hle := numberS_le xs
    have hlt := numberS_lt xs
    have HC := fun (W : World) (hr : Reads W v xs) => number_any v xs W hr hby
    generalize numberS xs = q at HC hle hlt hP
    obtain ⟨x, n⟩ := q
    simp only at HC hle hlt hP
    have HCC := Lib.hid HC; clear HC
    have hmw : IntKind.u64.wrap ((mn : Nat) : Int) = (mn : Int) := IntWalk.u64_in _ (by have := hmost.out; omega)
    have HP := Lib.hid hP; clear hP
    have HLT := Lib.hid hlt; clear hlt
    by_cases hn : n = 0
    · have hI : pieceS xs mn 0 = ([], xs, 6) := by rw [HP.out, if_pos hn]
      rw [hI]
      clear hI HP h
      subst hn
      go_enter Tryz.func46, Tryz.ntmps46
      go_wp2_with fail
      refine HRF.out.mono ?_
      rintro e w1 ⟨rfl, hr1, hk1⟩
      have c0 := hr1.cell0; have c1 := hr1.cell1; have f1 := hr1.free1; have hb1 := hr1.lt
      have HR1 := Lib.hid hr1; clear hr1
      go_wp2_with fail
      refine (HCC.out w1 HR1.out.reads).mono ?_
      rintro e w' ⟨rfl, rfl⟩
      go_wp2_with fail
      go_ret
      exact ⟨_, v, rfl, Or.inl ⟨rfl, rfl⟩, Or.inl rfl, HR1.out.setErr 6, rfl, hk1.trans (Kept.setCell (fun k => k = rb) _ _ _ rfl) (fun _ _ h => h) (fun _ _ h => h)⟩
    · have hnb : ((n : Int) == 0) = false := by simp; omega
      by_cases hx : (mn : Int) < (x : Int)
      · have hI : pieceS xs mn 0 = ([], xs, 3) := by rw [HP.out, if_neg hn, if_pos hx]
        rw [hI]
        clear hI HP h hn
        go_enter Tryz.func46, Tryz.ntmps46
        go_wp2_with fail
        refine HRF.out.mono ?_
        rintro e w1 ⟨rfl, hr1, hk1⟩
        have c0 := hr1.cell0; have c1 := hr1.cell1; have f1 := hr1.free1; have hb1 := hr1.lt
        have HR1 := Lib.hid hr1; clear hr1
        go_wp2_with fail
        refine (HCC.out w1 HR1.out.reads).mono ?_
        rintro e w' ⟨rfl, rfl⟩
        go_wp2_with fail
        go_ret
        exact ⟨_, v, rfl, Or.inl ⟨rfl, rfl⟩, Or.inl rfl, HR1.out.setErr 3, rfl, hk1.trans (Kept.setCell (fun k => k = rb) _ _ _ rfl) (fun _ _ h => h) (fun _ _ h => h)⟩
      · -- the bytes are no nil slice, as a number is there
        have hreads := h.reads
        rcases hreads with ⟨_, hx2⟩ | ⟨g, off, cap, hv, h1, h2, h3, h4⟩
        · rw [hx2] at hle; simp at hle; omega
        · subst hv
          have hcap : cap ≤ 9223372036854775807 := by unfold maxLen at h2; omega
          obtain ⟨d, hd⟩ : ∃ d, d = xs.length - n := ⟨_, rfl⟩
          rw [← hd] at HP
          have HMW := Lib.hid hmw
          have hd1 : ((xs.length : Int) - (n : Int)) = (d : Int) := by omega
          have hdw : IntKind.u64.wrap (d : Int) = (d : Int) := IntWalk.u64_in _ (by omega)
          have hxi : ¬ ((mn : Int) < (x : Int)) := hx
          have HD := Lib.hid hd; clear hd
          have H2 := Lib.hid h2; clear h2
          by_cases hx2 : (d : Int) < (x : Int)
          · have hI : pieceS xs mn 0 = ([], xs, 6) := by rw [HP.out, if_neg hn, if_neg hx, if_pos (by omega)]
            rw [hI]
            clear hI HP h hn hx h4 hmw HLT hmost hle
            have hmw : IntKind.u64.wrap ((mn : Nat) : Int) = (mn : Int) := HMW.out
            go_enter Tryz.func46, Tryz.ntmps46
            go_wp2_with fail
            refine HRF.out.mono ?_
            rintro e w1 ⟨rfl, hr1, hk1⟩
            have c0 := hr1.cell0; have c1 := hr1.cell1; have f1 := hr1.free1; have hb1 := hr1.lt
            have HR1 := Lib.hid hr1; clear hr1
            go_wp2_with fail
            refine (HCC.out w1 HR1.out.reads).mono ?_
            rintro e w' ⟨rfl, rfl⟩
            go_wp2_with fail
            go_ret
            exact ⟨_, _, rfl, Or.inl ⟨rfl, rfl⟩, Or.inl rfl, HR1.out.setErr 6, rfl, hk1.trans (Kept.setCell (fun k => k = rb) _ _ _ rfl) (fun _ _ h => h) (fun _ _ h => h)⟩
          · have hI : pieceS xs mn 0 = ((xs.drop n).take x, xs.drop (n + x), 0) := by rw [HP.out, if_neg hn, if_neg hx, if_neg (by omega)]
            rw [hI]
            clear hI HP h hn hx h4 hmw HLT hmost hle
            have hmw : IntKind.u64.wrap ((mn : Nat) : Int) = (mn : Int) := HMW.out
            have hxd : (x : Int) ≤ (d : Int) := by omega
            have hxw : IntKind.i64.wrap (x : Int) = (x : Int) := IntWalk.i64_in _ (by omega)
            obtain ⟨s, hs⟩ : ∃ s, s = n + x := ⟨_, rfl⟩
            have hs1 : ((n : Int) + (x : Int)) = (s : Int) := by omega
            have hsw : IntKind.i64.wrap (s : Int) = (s : Int) := IntWalk.i64_in _ (by have := HD.out; omega)
            have hsl : s ≤ xs.length := by have := HD.out; omega
            have hn0 : (0 : Int) ≤ (n : Int) := by omega
            have hns : (n : Int) ≤ (s : Int) := by omega
            have hsc : (s : Int) ≤ (cap : Int) := by omega
            have HS := Lib.hid hs; clear hs
            go_enter Tryz.func46, Tryz.ntmps46
            go_wp2_with fail
            refine HRF.out.mono ?_
            rintro e w1 ⟨rfl, hr1, hk1⟩
            have c0 := hr1.cell0; have c1 := hr1.cell1; have f1 := hr1.free1; have hb1 := hr1.lt
            have HR1 := Lib.hid hr1; clear hr1
            go_wp2_with fail
            refine (HCC.out w1 HR1.out.reads).mono ?_
            rintro e w' ⟨rfl, rfl⟩
            go_wp2_with fail
            refine (take_at w1 rb g off xs.length cap s h1 hcap hsl c0 HR1.out.free0).mono ?_
            rintro e w2 ⟨rfl, rfl⟩
            have hap : g ≠ rb := fun e => HR1.out.apart (by simp [Value.ownBlock, e])
            have hk2 := Kept.setCell (fun k => k = rb) w1 ⟨rb, 0, none⟩ (.slice (some ⟨g, if s = cap then off else off + s, none⟩) (xs.length - s) (cap - s)) rfl
            have hr2 : Reads w1 (.slice (some ⟨g, if s = cap then off else off + s, none⟩) (xs.length - s) (cap - s)) (xs.drop s) := by
              by_cases hnc : s = cap
              · rw [if_pos hnc]
                refine Or.inr ⟨g, off, cap - s, by simp, by simp; omega, by unfold maxLen; omega, Nat.lt_of_lt_of_le h3 hk1.size, fun i hi => ?_⟩
                simp at hi; omega
              · rw [if_neg hnc]
                exact Reads.drop s HR1.out.reads hsl
            have hrd2 := HR1.out.setLeft hr2 (by simpa [Value.ownBlock] using hap)
            have hpr : Reads w1 (.slice (some ⟨g, if n = cap then off else off + n, none⟩) x (cap - n)) ((xs.drop n).take x) := by
              have hHS := HS.out
              by_cases hnc : n = cap
              · rw [if_pos hnc]
                have hx0 : x = 0 := by omega
                subst hx0
                exact Or.inr ⟨g, off, cap - n, by simp, by simp, by unfold maxLen; omega, Nat.lt_of_lt_of_le h3 hk1.size, fun i hi => by simp at hi⟩
              · rw [if_neg hnc]
                have hd2 := Reads.drop n HR1.out.reads (by omega)
                have hl2 : (xs.drop n).length = xs.length - n := by simp
                rw [← hl2] at hd2
                exact Reads.take x hd2 (by omega)
            have hpr2 := hpr.kept hk2 (by simpa [Value.ownBlock] using hap)
            have hsn : s - n = x := by have := HS.out; omega
            have HK2 := Lib.hid hk2; have HRD2 := Lib.hid hrd2; have HPR2 := Lib.hid hpr2; clear hk2 hrd2 hpr2 hpr hr2
            generalize (if s = cap then off else off + s) = off2 at HK2 HRD2 HPR2 ⊢
            have HSN := Lib.hid hsn; clear hsn
            by_cases hnc : n = cap
            · have hnc1 : cap = n := hnc.symm
              have hsn2 : s = n := by omega
              rw [if_pos hnc] at HPR2
              have HX0 : Hid (x = 0) := by show _ = _; have := HS.out; omega
              subst hnc1
              have HSS := Lib.hid hsn2
              subst hsn2
              have e1 : Hid (xs.length - s = 0) := by show _ = _; omega
              go_wp2_with fail
              go_ret
              have a1 := HRD2.out; have a2 := HPR2.out; have a3 := HK2.out
              rw [e1.out, Nat.sub_self] at a1 a2 a3
              have hsx : s + x = s := by rw [HX0.out]; rfl
              rw [hsx]
              rw [HX0.out] at a2 ⊢
              exact ⟨_, _, rfl, a2, Or.inr rfl, a1, rfl, hk1.trans a3 (fun _ _ h => h) (fun _ _ h => h)⟩
            · rw [if_neg hnc] at HPR2
              have hnc' : ¬ cap = n := by omega
              clear hnc
              go_wp2_with fail
              go_ret
              have a2 := HPR2.out
              rw [← HSN.out] at a2
              have hsn := HSN.out
              refine ⟨_, .slice (some ⟨g, off2, none⟩) (xs.length - s) (cap - s), rfl, ?_, Or.inr rfl, ?_, rfl, hk1.trans HK2.out (fun _ _ h => h) (fun _ _ h => h)⟩
              · rw [hsn] at a2 ⊢; exact a2
              · rw [← HS.out]; exact HRD2.out
  · have hf0 : forErr most err ≠ 0 := by unfold forErr; split <;> omega
    have hI : pieceS xs most err = ([], xs, forErr most err) := by
      unfold pieceS forErr
      by_cases h1 : err = 0
      · rw [if_neg (by simpa using h1), if_pos (by omega), if_pos (by omega)]
      · rw [if_pos h1, if_neg (by omega)]
    rw [hI]
    rw [show decide (forErr most err = 0) = false by simpa using hf0] at hrf
    have HRF := Lib.hid hrf; clear hrf hI h
    go_enter Tryz.func46, Tryz.ntmps46
    go_wp2_with fail
    refine HRF.out.mono ?_
    rintro e w1 ⟨rfl, hr1, hk1⟩
    go_wp2_with fail
    go_ret
    exact ⟨_, v, rfl, Or.inl ⟨rfl, rfl⟩, Or.inl rfl, hr1, rfl, hk1⟩

end Go.Proofs.YtjglnpijngdpkaaGreatDoor
/-
  wire: Count and Number of the program's reader, where it has no error.
-/
namespace Go.Proofs.YtjglnpijngdpkaaGreatDoor
open Go.RowKit
set_option linter.unusedVariables false

theorem bounded_mostD (xs : List Nat) (most : Nat) (a e : Int) : (boundedS xs most a e).1 ≤ most := by
  unfold boundedS
  split
  · simp
  · split <;> simp <;> omega
/-- What 'Count' gives. -/
def cntSD (xs : List Nat) (most : Nat) : Nat × List Nat × Int := boundedS xs most 3 0

set_option maxRecDepth 100000 in
set_option maxHeartbeats 800000 in
theorem rcountD_any (w : World) (rb : Nat) (v : Value) (xs : List Nat) (m : Nat) (hmost : m < 9223372036854775808) (h : Rd w rb v xs 0) (hby : ∀ b ∈ xs, b < 256) :
    Calls Tryz.prog 22 #[.pointer (some ⟨rb, 0, none⟩), .int .i64 m] w fun e w' => e = .returned (.int .i64 (cntSD xs m).1) ∧
      ∃ v', Rd w' rb v' (cntSD xs m).2.1 (cntSD xs m).2.2 ∧ v'.ownBlock = v.ownBlock ∧ Kept (fun k => k = rb) w w' := by
  unfold cntSD
  have hrf := readyFor_any w rb v xs 0 m h
  rw [show forErr (m : Int) 0 = 0 from if_neg (by omega), show decide ((0 : Int) = 0) = true from rfl] at hrf
  have HB := Lib.hid (fun (W : World) (hr : Rd W rb v xs 0) => bounded_any W rb v xs 0 3 m hr hby)
  have hle := bounded_mostD xs m 3 0
  have HRF := Lib.hid hrf
  clear hrf h hby
  generalize boundedS xs m 3 0 = q at HB hle ⊢
  obtain ⟨n, left, er⟩ := q
  simp only at HB hle ⊢
  have hE : IntKind.i64.wrap (n : Int) = (n : Int) ∧ IntKind.u64.wrap (m : Int) = (m : Int) := ⟨IntWalk.i64_in _ (by omega), IntWalk.u64_in _ (by omega)⟩
  have HLE := Lib.hid hle
  clear hle hmost
  obtain ⟨hw, hw2⟩ := hE
  go_enter Tryz.func22, Tryz.ntmps22
  go_wp2_with fail
  refine HRF.out.mono ?_
  rintro e w1 ⟨rfl, hr1, hk1⟩
  have HR1 := Lib.hid hr1; have HK1 := Lib.hid hk1
  clear hr1 hk1
  go_wp2_with fail
  refine (HB.out w1 HR1.out).mono ?_
  rintro e w2 ⟨rfl, v', hr, hv, hk⟩
  have HV := Lib.hid hv; have HR := Lib.hid hr
  have HK := Lib.hid (HK1.out.trans hk (T := fun k => k = rb) (fun _ _ h => h) (fun _ _ h => h))
  clear hv hr hk
  go_wp2_with fail
  go_ret
  exact ⟨rfl, v', HR.out, HV.out, HK.out⟩
set_option maxRecDepth 100000 in
set_option maxHeartbeats 800000 in
theorem rnumD_nat (w : World) (rb : Nat) (v : Value) (xs : List Nat) (m : Nat) (hmost : m < 9223372036854775808) (h : Rd w rb v xs 0) (hby : ∀ b ∈ xs, b < 256) :
    Calls Tryz.prog 23 #[.pointer (some ⟨rb, 0, none⟩), .int .i64 m] w fun e w' => e = .returned (.int .i64 (boundedS xs m 2 0).1) ∧
      ∃ v', Rd w' rb v' (boundedS xs m 2 0).2.1 (boundedS xs m 2 0).2.2 ∧ v'.ownBlock = v.ownBlock ∧ Kept (fun k => k = rb) w w' := by
  have hrf := readyFor_any w rb v xs 0 m h
  rw [show forErr (m : Int) 0 = 0 from if_neg (by omega), show decide ((0 : Int) = 0) = true from rfl] at hrf
  have HB := Lib.hid (fun (W : World) (hr : Rd W rb v xs 0) => bounded_any W rb v xs 0 2 m hr hby)
  have hle := bounded_mostD xs m 2 0
  have HRF := Lib.hid hrf
  clear hrf h hby
  generalize boundedS xs m 2 0 = q at HB hle ⊢
  obtain ⟨n, left, er⟩ := q
  simp only at HB hle ⊢
  have hE : IntKind.i64.wrap (n : Int) = (n : Int) ∧ IntKind.u64.wrap (m : Int) = (m : Int) := ⟨IntWalk.i64_in _ (by omega), IntWalk.u64_in _ (by omega)⟩
  have HLE := Lib.hid hle
  clear hle hmost
  obtain ⟨hw, hw2⟩ := hE
  go_enter Tryz.func23, Tryz.ntmps23
  go_wp2_with fail
  refine HRF.out.mono ?_
  rintro e w1 ⟨rfl, hr1, hk1⟩
  have HR1 := Lib.hid hr1; have HK1 := Lib.hid hk1
  clear hr1 hk1
  go_wp2_with fail
  refine (HB.out w1 HR1.out).mono ?_
  rintro e w2 ⟨rfl, v', hr, hv, hk⟩
  have HV := Lib.hid hv; have HR := Lib.hid hr
  have HK := Lib.hid (HK1.out.trans hk (T := fun k => k = rb) (fun _ _ h => h) (fun _ _ h => h))
  clear hv hr hk
  go_wp2_with fail
  go_ret
  exact ⟨rfl, v', HR.out, HV.out, HK.out⟩
theorem uint_backD (n m : Nat) (rest : List Nat) (h : n ≤ m) (hm : m ≤ 100000) : uintS (enc n ++ rest) m 0 = (n, rest, 0) := by
  have h1 := numberS_enc (v := n) rest (by omega)
  have h2 := enc_pos n
  rw [uintS, if_pos rfl, boundedS, h1]
  simp only
  rw [if_neg (by omega), if_neg (by omega), List.drop_left]
theorem cnt_backD (n m : Nat) (rest : List Nat) (h : n ≤ m) (hm : m ≤ 100000) : cntSD (enc n ++ rest) m = (n, rest, 0) := by
  have h1 := numberS_enc (v := n) rest (by omega)
  have h2 := enc_pos n
  rw [cntSD, boundedS, h1]
  simp only
  rw [if_neg (by omega), if_neg (by omega), List.drop_left]
theorem rnumD_good (w : World) (rb : Nat) (v : Value) (n m : Nat) (rest : List Nat) (hm : m ≤ 100000) (hn : n ≤ m) (h : Rd w rb v (enc n ++ rest) 0) (hby : ∀ b ∈ enc n ++ rest, b < 256) :
    Calls Tryz.prog 23 #[.pointer (some ⟨rb, 0, none⟩), .int .i64 m] w fun e w' => e = .returned (.int .i64 n) ∧ ∃ v', Rd w' rb v' rest 0 ∧ v'.ownBlock = v.ownBlock ∧ Kept (fun k => k = rb) w w' := by
  have h1 := rnumD_nat w rb v _ m (by omega) h hby
  have h2 := uint_backD n m rest hn hm
  unfold uintS at h2
  rw [if_pos rfl] at h2
  rw [h2] at h1
  exact h1
theorem rcntD_good (w : World) (rb : Nat) (v : Value) (n m : Nat) (rest : List Nat) (hm : m ≤ 100000) (hn : n ≤ m) (h : Rd w rb v (enc n ++ rest) 0) (hby : ∀ b ∈ enc n ++ rest, b < 256) :
    Calls Tryz.prog 22 #[.pointer (some ⟨rb, 0, none⟩), .int .i64 m] w fun e w' => e = .returned (.int .i64 n) ∧ ∃ v', Rd w' rb v' rest 0 ∧ v'.ownBlock = v.ownBlock ∧ Kept (fun k => k = rb) w w' := by
  have h1 := rcountD_any w rb v _ m (by omega) h hby
  rw [cnt_backD n m rest hn hm] at h1
  exact h1
end Go.Proofs.YtjglnpijngdpkaaGreatDoor
/-
  wire.Reader: String, Bytes, Flag.
-/
namespace Go.Proofs.YtjglnpijngdpkaaGreatDoor
open Go.RowKit

theorem pieceS_byte {xs : List Nat} (most err : Int) (h : ∀ b ∈ xs, b < 256) : (∀ b ∈ (pieceS xs most err).1, b < 256) ∧ (∀ b ∈ (pieceS xs most err).2.1, b < 256) := by
  unfold pieceS
  repeat' split
  all_goals first
    | exact ⟨by simp, h⟩
    | exact ⟨fun b hb => h b (List.mem_of_mem_drop (List.mem_of_mem_take hb)), fun b hb => h b (List.mem_of_mem_drop hb)⟩

set_option maxRecDepth 100000 in
set_option maxHeartbeats 400000 in
theorem rstring_any (w : World) (rb : Nat) (v : Value) (xs : List Nat) (err most : Int) (h : Rd w rb v xs err) (hby : ∀ b ∈ xs, b < 256) (hmost : Hid (most < 9223372036854775808)) :
    Calls Tryz.prog 21 #[.pointer (some ⟨rb, 0, none⟩), .int .i64 most] w fun e w' => e = .returned (.string (strOf (pieceS xs most err).1)) ∧
      ∃ v', Rd w' rb v' (pieceS xs most err).2.1 (pieceS xs most err).2.2 ∧ v'.ownBlock = v.ownBlock ∧ Kept (fun k => k = rb) w w' := by
  have hp := piece_any w rb v xs err most h hby hmost
  generalize pieceS xs most err = q at hp ⊢
  have HP := Lib.hid hp; clear hp
  clear h hby
  go_enter Tryz.func21, Tryz.ntmps21
  go_wp2_with fail
  refine HP.out.mono ?_
  rintro e w1 ⟨p, v', rfl, hr, _, hrd, hv, hk⟩
  have hs := reads_str hr
  have HV := Lib.hid hv; clear hv
  go_wp2_with fail
  go_ret
  exact ⟨rfl, v', hrd, HV.out, hk⟩

/-- What 'Flag' gives. -/
def flagS (xs : List Nat) (err : Int) : Bool × List Nat × Int :=
  if err ≠ 0 then (false, xs, err) else match xs with
    | [] => (false, [], 6)
    | b :: t => if 1 < b then (false, b :: t, 6) else (decide (b = 1), t, 0)

end Go.Proofs.YtjglnpijngdpkaaGreatDoor
/-
  What was written as a string or bytes is read back. (As in BackM.)
-/
namespace Go.Proofs.YtjglnpijngdpkaaGreatDoor
open Go.RowKit

theorem pieceS_enc (ys rest : List Nat) (most : Int) (hm : (ys.length : Int) ≤ most) (hl : ys.length < 18446744073709551616) : pieceS ((enc ys.length ++ ys) ++ rest) most 0 = (ys, rest, 0) := by
  have h1 := numberS_enc (ys ++ rest) hl
  rw [List.append_assoc]
  have h2 := enc_pos ys.length
  rw [pieceS, if_neg (by simp), if_neg (by omega), h1]
  simp only
  rw [if_neg (by omega), if_neg (by omega), if_neg (by simp), List.drop_left, List.take_left, ← List.drop_drop, List.drop_left, List.drop_left]
end Go.Proofs.YtjglnpijngdpkaaGreatDoor
