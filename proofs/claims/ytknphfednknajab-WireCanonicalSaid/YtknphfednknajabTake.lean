/-
  arbaclaw02.take: it reads a value and writes it again; what it takes is what it writes.
-/
import Derived.Test.YtknphfednknajabCanonM
import Derived.Test.YtknphfednknajabWriter
namespace Go.Proofs.Ytknphfednknajab
open Go.RowKit

/-- A reader and a writer that share nothing, all from block B on but for nothing. -/
structure RW (w : World) (rb wb : Nat) (v u : Value) (B : Nat) (xs ys : List Nat) (err : Int) : Prop where
  rd : Rd w rb v xs err
  wr : Wr w wb u B ys
  ne : rb ≠ wb
  urb : u.ownBlock ≠ some rb
  vwb : v.ownBlock ≠ some wb
  vu : ∀ k, v.ownBlock = some k → u.ownBlock ≠ some k
  rbase : B ≤ rb
  byte : ∀ b ∈ xs, b < 256

theorem RW.read {w w1 : World} {rb wb : Nat} {v v1 u : Value} {B : Nat} {xs ys left : List Nat} {err e1 : Int} (h : RW w rb wb v u B xs ys err) (hr : Rd w1 rb v1 left e1) (hv : v1.ownBlock = v.ownBlock) (hk : Kept (fun k => k = rb) w w1) (hb : ∀ b ∈ left, b < 256) :
    RW w1 rb wb v1 u B left ys e1 ∧ Kept (fun k => B ≤ k) w w1 :=
  ⟨⟨hr, h.wr.kept hk (fun e => h.ne e.symm) (fun k hk' e => h.urb (e ▸ hk')), h.ne, h.urb, by rw [hv]; exact h.vwb, by rw [hv]; exact h.vu, h.rbase, hb⟩, hk.mono fun i _ e => by rw [e]; exact h.rbase⟩

theorem RW.write {w w1 : World} {rb wb : Nat} {v u u1 : Value} {B : Nat} {xs ys zs : List Nat} {err : Int} (h : RW w rb wb v u B xs ys err) (hw : Wr w1 wb u1 B zs) (hs : WStep w w1 wb u u1) :
    RW w1 rb wb v u1 B xs zs err ∧ Kept (fun k => B ≤ k) w w1 := by
  have hvlt := h.rd.reads.lt
  have hrlt := h.rd.lt
  refine ⟨⟨h.rd.kept hs.kept ?_ ?_, hw, h.ne, ?_, h.vwb, ?_, h.rbase, h.byte⟩, hs.kept.mono ?_⟩
  · rintro (e | e)
    · exact h.ne e
    · exact h.urb e
  · rintro k hk (e | e)
    · exact h.vwb (e ▸ hk)
    · exact h.vu k hk e
  · rcases hs.row with e | e
    · rw [e]; exact h.urb
    · intro e2; have := e rb e2; omega
  · intro k hk
    rcases hs.row with e | e
    · rw [e]; exact h.vu k hk
    · intro e2; have := e k e2; have := hvlt k hk; omega
  · rintro i _ (e | e)
    · rw [e]; exact h.wr.base
    · exact (h.wr.own.lt i e).1

theorem RW.hB {w : World} {rb wb : Nat} {v u : Value} {B : Nat} {xs ys : List Nat} {err : Int} (h : RW w rb wb v u B xs ys err) : B ≤ w.heap.size := Nat.le_trans h.wr.base (Nat.le_of_lt h.wr.lt)

/-- What a step gives. -/
def TakeRes (w w' : World) (rb wb B : Nat) (xs ys : List Nat) : Prop :=
  ∃ v' u' zs left err', RW w' rb wb v' u' B left (ys ++ zs) err' ∧ xs = zs ++ left ∧ Kept (fun k => B ≤ k) w w'

/-- A method of a reader: what it leaves, and the value's encoding E. -/
def Canon1 (xs : List Nat) (E left : List Nat) (er : Int) : Prop := (er = 0 → xs = E ++ left) ∧ (er ≠ 0 → left = xs)

theorem Canon1.byte {xs E left : List Nat} {er : Int} (h : Canon1 xs E left er) (hb : ∀ b ∈ xs, b < 256) : ∀ b ∈ left, b < 256 := by
  by_cases he : er = 0
  · intro b hm; exact hb b (by rw [h.1 he]; exact List.mem_append_right _ hm)
  · rw [h.2 he]; exact hb

/-- The end of a step that read without an error. -/
theorem take_end {w w1 w2 : World} {rb wb : Nat} {v v1 u u2 : Value} {B : Nat} {xs ys E left : List Nat} {err : Int} (h : RW w rb wb v u B xs ys err) (hr : Rd w1 rb v1 left 0) (hv : v1.ownBlock = v.ownBlock) (hk : Kept (fun k => k = rb) w w1)
    (hc : Canon1 xs E left 0) (hw : Wr w2 wb u2 B (ys ++ E)) (hs : WStep w1 w2 wb u u2) : TakeRes w w2 rb wb B xs ys := by
  have ⟨h1, k1⟩ := h.read hr hv hk (hc.byte h.byte)
  have ⟨h2, k2⟩ := h1.write hw hs
  exact ⟨_, _, E, left, 0, h2, hc.1 rfl, k1.trans k2 (fun _ _ h => h) (fun _ _ h => h)⟩

/-- The end of a step that read with an error. -/
theorem take_fail {w w1 : World} {rb wb : Nat} {v v1 u : Value} {B : Nat} {xs ys E left : List Nat} {err er : Int} (h : RW w rb wb v u B xs ys err) (hr : Rd w1 rb v1 left er) (hv : v1.ownBlock = v.ownBlock) (hk : Kept (fun k => k = rb) w w1)
    (hc : Canon1 xs E left er) (he : er ≠ 0) : TakeRes w w1 rb wb B xs ys := by
  have ⟨h1, k1⟩ := h.read hr hv hk (hc.byte h.byte)
  refine ⟨_, _, [], left, er, by rw [List.append_nil]; exact h1, (hc.2 he).symm, k1⟩

theorem ruintMax (w : World) (rb : Nat) (v : Value) (xs : List Nat) (err : Int) (h : Rd w rb v xs err) (hby : ∀ b ∈ xs, b < 256) :
    Calls Try.prog 35 #[.pointer (some ⟨rb, 0, none⟩), .int .u64 18446744073709551615] w fun e w' =>
      ∃ (x : Nat) (v' : Value) (left : List Nat) (er : Int), e = .returned (.int .u64 x) ∧ Rd w' rb v' left er ∧ Hid (v'.ownBlock = v.ownBlock) ∧ Kept (fun k => k = rb) w w' ∧ Hid (Canon1 xs (enc x) left er) ∧ Hid (x < 18446744073709551616) := by
  have hc := uint_canon xs 18446744073709551615 err hby
  have hlt : (uintS xs 18446744073709551615 err).1 < 18446744073709551616 := by
    have := numberS_lt xs
    unfold uintS boundedS
    repeat' split
    all_goals first | omega | (simp; done)
  refine (ruint_any w rb v xs err 18446744073709551615 h hby).mono ?_
  rintro e w' ⟨rfl, v', hr, hv, hk⟩
  exact ⟨_, v', _, _, rfl, hr, hv, hk, hc, hlt⟩

theorem rintMax (w : World) (rb : Nat) (v : Value) (xs : List Nat) (err : Int) (h : Rd w rb v xs err) (hby : ∀ b ∈ xs, b < 256) :
    Calls Try.prog 13 #[.pointer (some ⟨rb, 0, none⟩), .int .i64 (-9223372036854775808), .int .i64 9223372036854775807] w fun e w' =>
      ∃ (x : Int) (v' : Value) (left : List Nat) (er : Int), e = .returned (.int .i64 x) ∧ Rd w' rb v' left er ∧ Hid (v'.ownBlock = v.ownBlock) ∧ Kept (fun k => k = rb) w w' ∧ Hid (Canon1 xs (enc (zz x)) left er) ∧ Hid (-9223372036854775808 ≤ x ∧ x < 9223372036854775808) := by
  have hc := int_canon xs (-9223372036854775808) 9223372036854775807 err hby
  have hlt : -9223372036854775808 ≤ (intS xs (-9223372036854775808) 9223372036854775807 err).1 ∧ (intS xs (-9223372036854775808) 9223372036854775807 err).1 < 9223372036854775808 := by
    unfold intS
    repeat' split
    all_goals first | omega | (simp only; omega)
  refine (rint_any w rb v xs err _ _ h hby).mono ?_
  rintro e w' ⟨rfl, v', hr, hv, hk⟩
  exact ⟨_, v', _, _, rfl, hr, hv, hk, hc, hlt⟩

theorem rstr1000 (w : World) (rb : Nat) (v : Value) (xs : List Nat) (err : Int) (h : Rd w rb v xs err) (hby : ∀ b ∈ xs, b < 256) :
    Calls Try.prog 41 #[.pointer (some ⟨rb, 0, none⟩), .int .i64 1000] w fun e w' =>
      ∃ (s : ByteArray) (v' : Value) (left : List Nat) (er : Int), e = .returned (.string s) ∧ Rd w' rb v' left er ∧ Hid (v'.ownBlock = v.ownBlock) ∧ Kept (fun k => k = rb) w w' ∧ Hid (Canon1 xs (enc s.size ++ strB s) left er) ∧ s.size ≤ 1000 := by
  have hc := piece_canon xs 1000 err hby
  have hb := (pieceS_byte 1000 err hby).1
  have hle : (pieceS xs 1000 err).1.length ≤ 1000 := by
    by_cases he : (pieceS xs 1000 err).2.2 = 0
    · have := pieceS_len xs 1000 err he; omega
    · rw [(pieceS_err xs 1000 err he).1]; simp
  refine (rstring_any w rb v xs err 1000 h hby (by show (1000 : Int) < 9223372036854775808; omega)).mono ?_
  rintro e w' ⟨rfl, v', hr, hv, hk⟩
  refine ⟨_, v', _, _, rfl, hr, hv, hk, ?_, by rw [strOf_size]; exact hle⟩
  rw [strOf_size, strOf_bytes hb]
  exact hc

theorem rbytes1000 (w : World) (rb : Nat) (v : Value) (xs : List Nat) (err : Int) (h : Rd w rb v xs err) (hby : ∀ b ∈ xs, b < 256) :
    Calls Try.prog 42 #[.pointer (some ⟨rb, 0, none⟩), .int .i64 1000] w fun e w' =>
      ∃ (q : Value) (ps : List Nat) (v' : Value) (left : List Nat) (er : Int), e = .returned q ∧ Fresh w' w.heap.size q ps ∧ Rd w' rb v' left er ∧ Hid (v'.ownBlock = v.ownBlock) ∧ Kept (fun k => k = rb) w w' ∧ Hid (Canon1 xs (enc ps.length ++ ps) left er) ∧ ps.length ≤ 1000 := by
  have hc := piece_canon xs 1000 err hby
  have hle : (pieceS xs 1000 err).1.length ≤ 1000 := by
    by_cases he : (pieceS xs 1000 err).2.2 = 0
    · have := pieceS_len xs 1000 err he; omega
    · rw [(pieceS_err xs 1000 err he).1]; simp
  refine (rbytes_any w rb v xs err 1000 h hby (by show (1000 : Int) < 9223372036854775808; omega) (by omega)).mono ?_
  rintro e w' ⟨q, v', rfl, hf, hr, hv, hk⟩
  exact ⟨_, _, v', _, _, rfl, hf, hr, hv, hk, hc, hle⟩

theorem setS_small (xs : List Nat) (most err : Int) (hb : ∀ b ∈ xs, b < 256) : Small (setS xs most err).1 := by
  have h0 : Small 0 := fun e _ => Nat.pow_pos (by omega)
  unfold setS
  by_cases h1 : err ≠ 0
  · rw [if_pos h1]; exact h0
  · rw [if_neg h1]
    by_cases h2 : (pieceS xs 512 0).2.2 ≠ 0
    · rw [if_pos h2]; exact h0
    · rw [if_neg h2]
      by_cases h3 : BadSet (pieceS xs 512 0).1
      · rw [if_pos h3]; exact h0
      · rw [if_neg h3]
        split
        · exact h0
        · refine numLE_small _ (pieceS_byte 512 0 hb).1 ?_
          have := pieceS_len xs 512 0 (Decidable.not_not.1 h2)
          omega

/-- 'Set' of any reader. -/
theorem rset4095 (w : World) (rb : Nat) (v : Value) (xs : List Nat) (err : Int) (h : Rd w rb v xs err) (hby : ∀ b ∈ xs, b < 256) :
    Calls Try.prog 26 #[.pointer (some ⟨rb, 0, none⟩), .int .i64 4095] w fun e w' =>
      ∃ (sv : Value) (M : Nat) (v' : Value) (left : List Nat) (er : Int), e = .returned sv ∧ SetV w' sv M ∧ Hid (∀ k, setBlk sv k → w.heap.size ≤ k) ∧ Rd w' rb v' left er ∧ Hid (v'.ownBlock = v.ownBlock) ∧ Kept (fun k => k = rb) w w' ∧
        Hid (Canon1 xs (enc (bytesOf M).length ++ bytesOf M) left er) ∧ Small M := by
  have hc := set_canon xs 4095 err hby
  have hsm := setS_small xs 4095 err hby
  by_cases he : err = 0
  · subst he
    refine (rset_ok w rb v xs 4095 h hby).mono ?_
    rintro e w' ⟨sv, v', rfl, hs, hb, hr, hv, hk⟩
    exact ⟨_, _, v', _, _, rfl, hs, hb, hr, hv, hk, hc, hsm⟩
  · have e0 : setS xs 4095 err = (0, xs, err) := if_pos he
    rw [e0] at hc hsm
    refine (rset_err w rb v xs err 4095 h he).mono ?_
    rintro e w' ⟨rfl, hr, hk⟩
    refine ⟨_, 0, v, _, _, rfl, setv_zero w', ?_, hr, rfl, hk.mono (fun _ _ h => h.elim), hc, hsm⟩
    rintro k ⟨lo, hv, he, hb⟩
    cases he
    simp [Value.ownBlock] at hb

set_option maxRecDepth 100000 in
set_option maxHeartbeats 1600000 in
theorem take_any0 (w : World) (rb wb k : Nat) (v u : Value) (B : Nat) (xs ys : List Nat) (err : Int) (h : RW w rb wb v u B xs ys err) (hl : ys.length ≤ 300) (hk6 : ((k : Int) % 6) = 0) :
    Calls Try.prog 20 #[.pointer (some ⟨rb, 0, none⟩), .pointer (some ⟨wb, 0, none⟩), .int .u8 k] w fun e w' => e = .returned (.tuple #[]) ∧ TakeRes w w' rb wb B xs ys := by
  have HH := Lib.hid h; clear h
  go_enter Try.func20, Try.ntmps20
  go_wp2_with fail
  refine (ruintMax w rb v xs err HH.out.rd HH.out.byte).mono ?_
  rintro e w1 ⟨x, v1, left, er, rfl, hr, hv, hk, hc, hx⟩
  go_wp2_with fail
  refine (err_any w1 rb er hr.cell1).mono ?_
  rintro e w' ⟨rfl, rfl⟩
  by_cases he : er = 0
  · subst he
    go_wp2_with fail
    refine (uint_any x w1 wb u B ys (HH.out.wr.kept hk (fun e => HH.out.ne e.symm) (fun k hk' e => HH.out.urb (e ▸ hk'))) (by omega) hx).mono ?_
    rintro e w2 ⟨rfl, u2, hw2, hs2⟩
    have HR := Lib.hid (take_end HH.out hr hv.out hk hc.out hw2 hs2)
    clear hw2 hs2
    go_wp2
    go_end0
    exact ⟨rfl, HR.out⟩
  · have heb : (er == 0) = false := by simpa using he
    have HR := Lib.hid (take_fail HH.out hr hv.out hk hc.out he)
    clear he
    go_wp2
    go_end0
    exact ⟨rfl, HR.out⟩

set_option maxRecDepth 100000 in
set_option maxHeartbeats 1600000 in
theorem take_any1 (w : World) (rb wb k : Nat) (v u : Value) (B : Nat) (xs ys : List Nat) (err : Int) (h : RW w rb wb v u B xs ys err) (hl : ys.length ≤ 300) (hk6 : ((k : Int) % 6) = 1) :
    Calls Try.prog 20 #[.pointer (some ⟨rb, 0, none⟩), .pointer (some ⟨wb, 0, none⟩), .int .u8 k] w fun e w' => e = .returned (.tuple #[]) ∧ TakeRes w w' rb wb B xs ys := by
  have HH := Lib.hid h; clear h
  have hB := HH.out.hB
  go_enter Try.func20, Try.ntmps20
  go_wp2_with fail
  refine (rintMax w rb v xs err HH.out.rd HH.out.byte).mono ?_
  rintro e w1 ⟨x, v1, left, er, rfl, hr, hv, hk, hc, hx⟩
  have hB1 := Nat.le_trans hB hk.size
  go_wp2_with fail
  refine (err_any w1 rb er hr.cell1).mono ?_
  rintro e w' ⟨rfl, rfl⟩
  by_cases he : er = 0
  · subst he
    have hwr1 := HH.out.wr.kept hk (fun e => HH.out.ne e.symm) (fun k hk' e => HH.out.urb (e ▸ hk'))
    go_wp2_with fail
    refine (int_any x w1 wb u B ys hwr1 (by omega) hx).mono ?_
    rintro e w2 ⟨rfl, u2, hw2, hs2⟩
    have HR := Lib.hid (take_end HH.out hr hv.out hk hc.out hw2 hs2)
    clear hw2 hs2
    go_wp2
    go_end0
    exact ⟨rfl, HR.out⟩
  · have heb : (er == 0) = false := by simpa using he
    have HR := Lib.hid (take_fail HH.out hr hv.out hk hc.out he)
    clear he
    go_wp2
    go_end0
    exact ⟨rfl, HR.out⟩

set_option maxRecDepth 100000 in
set_option maxHeartbeats 1600000 in
theorem take_any2 (w : World) (rb wb k : Nat) (v u : Value) (B : Nat) (xs ys : List Nat) (err : Int) (h : RW w rb wb v u B xs ys err) (hl : ys.length ≤ 300) (hk6 : ((k : Int) % 6) = 2) :
    Calls Try.prog 20 #[.pointer (some ⟨rb, 0, none⟩), .pointer (some ⟨wb, 0, none⟩), .int .u8 k] w fun e w' => e = .returned (.tuple #[]) ∧ TakeRes w w' rb wb B xs ys := by
  have HH := Lib.hid h; clear h
  have hB := HH.out.hB
  go_enter Try.func20, Try.ntmps20
  go_wp2_with fail
  refine (rstr1000 w rb v xs err HH.out.rd HH.out.byte).mono ?_
  rintro e w1 ⟨x, v1, left, er, rfl, hr, hv, hk, hc, hx⟩
  have hB1 := Nat.le_trans hB hk.size
  go_wp2_with fail
  refine (err_any w1 rb er hr.cell1).mono ?_
  rintro e w' ⟨rfl, rfl⟩
  by_cases he : er = 0
  · subst he
    have hwr1 := HH.out.wr.kept hk (fun e => HH.out.ne e.symm) (fun k hk' e => HH.out.urb (e ▸ hk'))
    go_wp2_with fail
    refine (string_any x w1 wb u B ys hwr1 (by omega) (by omega) hB1).mono ?_
    rintro e w2 ⟨rfl, u2, hw2, hs2⟩
    have HR := Lib.hid (take_end HH.out hr hv.out hk hc.out hw2 hs2)
    clear hw2 hs2
    go_wp2
    go_end0
    exact ⟨rfl, HR.out⟩
  · have heb : (er == 0) = false := by simpa using he
    have HR := Lib.hid (take_fail HH.out hr hv.out hk hc.out he)
    clear he
    go_wp2
    go_end0
    exact ⟨rfl, HR.out⟩

theorem rflag0 (w : World) (rb : Nat) (v : Value) (xs : List Nat) (err : Int) (h : Rd w rb v xs err) (_hby : ∀ b ∈ xs, b < 256) :
    Calls Try.prog 44 #[.pointer (some ⟨rb, 0, none⟩)] w fun e w' =>
      ∃ (x : Bool) (v' : Value) (left : List Nat) (er : Int), e = .returned (.bool x) ∧ Rd w' rb v' left er ∧ Hid (v'.ownBlock = v.ownBlock) ∧ Kept (fun k => k = rb) w w' ∧ Hid (Canon1 xs (encFlag x) left er) := by
  have hc := flag_canon xs err
  refine (rflag_any w rb v xs err h).mono ?_
  rintro e w' ⟨rfl, v', hr, hv, hk⟩
  exact ⟨_, v', _, _, rfl, hr, hv, hk, hc⟩

set_option maxRecDepth 100000 in
set_option maxHeartbeats 1600000 in
theorem take_any3 (w : World) (rb wb k : Nat) (v u : Value) (B : Nat) (xs ys : List Nat) (err : Int) (h : RW w rb wb v u B xs ys err) (hl : ys.length ≤ 300) (hk6 : ((k : Int) % 6) = 3) :
    Calls Try.prog 20 #[.pointer (some ⟨rb, 0, none⟩), .pointer (some ⟨wb, 0, none⟩), .int .u8 k] w fun e w' => e = .returned (.tuple #[]) ∧ TakeRes w w' rb wb B xs ys := by
  have HH := Lib.hid h; clear h
  have hB := HH.out.hB
  go_enter Try.func20, Try.ntmps20
  go_wp2_with fail
  refine (rbytes1000 w rb v xs err HH.out.rd HH.out.byte).mono ?_
  rintro e w1 ⟨q, ps, v1, left, er, rfl, hf, hr, hv, hk, hc, hx⟩
  have hB1 := Nat.le_trans hB hk.size
  have HFB := Lib.hid hf.block
  have HWL := Lib.hid HH.out.wr.lt
  have HWO := Lib.hid HH.out.wr.own.lt
  go_wp2_with fail
  refine (err_any w1 rb er hr.cell1).mono ?_
  rintro e w' ⟨rfl, rfl⟩
  by_cases he : er = 0
  · subst he
    have hwr1 := HH.out.wr.kept hk (fun e => HH.out.ne e.symm) (fun k hk' e => HH.out.urb (e ▸ hk'))
    go_wp2_with fail
    refine (wbytes_any q ps w1 wb u B ys hwr1 hf.reads (fun j hj => ⟨by have := HWL.out; have := HFB.out j hj; omega, fun e => by have := (HWO.out j e).2; have := HFB.out j hj; omega⟩) (by omega) (by omega) hB1).mono ?_
    rintro e w2 ⟨rfl, u2, hw2, hs2⟩
    have HR := Lib.hid (take_end HH.out hr hv.out hk hc.out hw2 hs2)
    clear hw2 hs2
    go_wp2
    go_end0
    exact ⟨rfl, HR.out⟩
  · have heb : (er == 0) = false := by simpa using he
    have HR := Lib.hid (take_fail HH.out hr hv.out hk hc.out he)
    clear he
    go_wp2
    go_end0
    exact ⟨rfl, HR.out⟩

set_option maxRecDepth 100000 in
set_option maxHeartbeats 1600000 in
theorem take_any4 (w : World) (rb wb k : Nat) (v u : Value) (B : Nat) (xs ys : List Nat) (err : Int) (h : RW w rb wb v u B xs ys err) (hl : ys.length ≤ 300) (hk6 : ((k : Int) % 6) = 4) :
    Calls Try.prog 20 #[.pointer (some ⟨rb, 0, none⟩), .pointer (some ⟨wb, 0, none⟩), .int .u8 k] w fun e w' => e = .returned (.tuple #[]) ∧ TakeRes w w' rb wb B xs ys := by
  have HH := Lib.hid h; clear h
  have hB := HH.out.hB
  go_enter Try.func20, Try.ntmps20
  go_wp2_with fail
  refine (rflag0 w rb v xs err HH.out.rd HH.out.byte).mono ?_
  rintro e w1 ⟨x, v1, left, er, rfl, hr, hv, hk, hc⟩
  have hB1 := Nat.le_trans hB hk.size
  go_wp2_with fail
  refine (err_any w1 rb er hr.cell1).mono ?_
  rintro e w' ⟨rfl, rfl⟩
  by_cases he : er = 0
  · subst he
    have hwr1 := HH.out.wr.kept hk (fun e => HH.out.ne e.symm) (fun k hk' e => HH.out.urb (e ▸ hk'))
    go_wp2_with fail
    refine (wflag_any x w1 wb u B ys hwr1 (by omega)).mono ?_
    rintro e w2 ⟨rfl, u2, hw2, hs2⟩
    have HR := Lib.hid (take_end HH.out hr hv.out hk hc.out hw2 hs2)
    clear hw2 hs2
    go_wp2
    go_end0
    exact ⟨rfl, HR.out⟩
  · have heb : (er == 0) = false := by simpa using he
    have HR := Lib.hid (take_fail HH.out hr hv.out hk hc.out he)
    clear he
    go_wp2
    go_end0
    exact ⟨rfl, HR.out⟩

set_option maxRecDepth 100000 in
set_option maxHeartbeats 1600000 in
theorem take_any5 (w : World) (rb wb k : Nat) (v u : Value) (B : Nat) (xs ys : List Nat) (err : Int) (h : RW w rb wb v u B xs ys err) (hl : ys.length ≤ 300) (hk6 : ((k : Int) % 6) = 5) :
    Calls Try.prog 20 #[.pointer (some ⟨rb, 0, none⟩), .pointer (some ⟨wb, 0, none⟩), .int .u8 k] w fun e w' => e = .returned (.tuple #[]) ∧ TakeRes w w' rb wb B xs ys := by
  have HH := Lib.hid h; clear h
  have hB := HH.out.hB
  go_enter Try.func20, Try.ntmps20
  go_wp2_with fail
  refine (rset4095 w rb v xs err HH.out.rd HH.out.byte).mono ?_
  rintro e w1 ⟨sv, M, v1, left, er, rfl, hsv, hsb, hr, hv, hk, hc, hsm⟩
  have hB1 := Nat.le_trans hB hk.size
  obtain ⟨lo, a, n, c, hsf⟩ := hsv.form
  have HSV := Lib.hid hsv; clear hsv
  subst hsf
  have hka := Kept.alloc (fun _ => False) w1 (.cells #[.int .u64 lo, .slice a n c] 53)
  have hra := hr.kept hka (fun h => h) (fun _ _ h => h)
  have hkk : Kept (fun k => k = rb) w (w1.alloc (.cells #[.int .u64 lo, .slice a n c] 53)) := hk.trans hka (fun _ _ h => h) (fun _ _ h => h.elim)
  have hsva := HSV.out.kept hka (fun _ _ h => h)
  have HRA := Lib.hid hra; have HKK := Lib.hid hkk; have HSA := Lib.hid hsva; have HSM := Lib.hid hsm; clear hra hkk hsva hsm hka hr hk
  go_wp2_with fail
  refine (err_any _ rb er HRA.out.cell1).mono ?_
  rintro e w' ⟨rfl, rfl⟩
  by_cases he : er = 0
  · subst he
    have hwr1 := HH.out.wr.kept HKK.out (fun e => HH.out.ne e.symm) (fun k hk' e => HH.out.urb (e ▸ hk'))
    have HWR := Lib.hid hwr1; clear hwr1
    go_wp2_with fail
    refine (wset_any _ M HSM.out _ wb u B ys HWR.out HSA.out (by omega) (by simp; omega)).mono ?_
    rintro e w2 ⟨rfl, u2, hw2, hs2⟩
    have HR := Lib.hid (take_end HH.out HRA.out hv.out HKK.out hc.out hw2 hs2)
    clear hw2 hs2
    go_wp2
    go_end0
    exact ⟨rfl, HR.out⟩
  · have heb : (er == 0) = false := by simpa using he
    have HR := Lib.hid (take_fail HH.out HRA.out hv.out HKK.out hc.out he)
    clear he
    go_wp2
    go_end0
    exact ⟨rfl, HR.out⟩

/-- One step: it reads a value, and writes it again. -/
theorem takes_any (w : World) (rb wb k : Nat) (v u : Value) (B : Nat) (xs ys : List Nat) (err : Int) (h : RW w rb wb v u B xs ys err) (hl : ys.length ≤ 300) :
    Calls Try.prog 20 #[.pointer (some ⟨rb, 0, none⟩), .pointer (some ⟨wb, 0, none⟩), .int .u8 k] w fun e w' => e = .returned (.tuple #[]) ∧ TakeRes w w' rb wb B xs ys := by
  have h6 : k % 6 = 0 ∨ k % 6 = 1 ∨ k % 6 = 2 ∨ k % 6 = 3 ∨ k % 6 = 4 ∨ k % 6 = 5 := by omega
  rcases h6 with h6 | h6 | h6 | h6 | h6 | h6
  · exact take_any0 w rb wb k v u B xs ys err h hl (by omega)
  · exact take_any1 w rb wb k v u B xs ys err h hl (by omega)
  · exact take_any2 w rb wb k v u B xs ys err h hl (by omega)
  · exact take_any3 w rb wb k v u B xs ys err h hl (by omega)
  · exact take_any4 w rb wb k v u B xs ys err h hl (by omega)
  · exact take_any5 w rb wb k v u B xs ys err h hl (by omega)

end Go.Proofs.Ytknphfednknajab
