/-
  strings.FieldsSeq: the fields of a text, one after the other.
-/
import Derived.Test.YteaagllpkcpedaaDoorBLb
import Derived.Test.YteaagllpkcpedaaDoorBAll
import Derived.Lib.QuoteLoop
import Derived.Lib.TrimU
namespace Go.Proofs.YteaagllpkcpedaaDoor
open Go.RowKit Go.Shelf
attribute [local go_sem] Oper.semAt_some

theorem sh_Dec (s : ByteArray) (w : World) (hL : Libs w) : Calls Tryd.prog 61 #[.string s] w fun e w' => e = .returned (.tuple #[.int .i32 ((Lib.decodeGo s).1 : Nat), .int .i64 ((Lib.decodeGo s).2 : Nat)]) ∧ Kept (fun _ => False) w w' :=
  (Any.utf8_DecodeRuneInString laysDR s w hL.utf).mono fun _ _ h => ⟨h.1, Kept.ofBelow _ h.2⟩
theorem sh_Space (r : Nat) (hr : r ≤ 1114111) (w : World) (hL : Libs w) : Calls Tryd.prog 62 #[.int .i32 (r : Int)] w fun e w' => e = .returned (.bool (Lib.isSpaceZ r)) ∧ Kept (fun _ => False) w w' :=
  (Any.unicode_IsSpace_any laysSp r w (by omega) (by omega) hL.white).mono fun _ _ h => ⟨h.1, Kept.ofBelow _ h.2⟩
theorem decGo_facts (s : ByteArray) (h : 0 < s.size) : 1 ≤ (Lib.decodeGo s).2 ∧ (Lib.decodeGo s).2 ≤ s.size ∧ (Lib.decodeGo s).1 ≤ 1114111 := by
  unfold Lib.decodeGo
  rw [if_neg (by omega)]
  exact ⟨Lib.width_pos s 0, Lib.width_le s h, Lib.rune_le s 0⟩

/-- How many bytes the rune at place i of the text takes, and whether it is white space. -/
def szAt (s : ByteArray) (i : Nat) : Nat := if (s.data.toList.getD i 0).toNat < 128 then 1 else (Lib.decodeGo (s.extract i s.size)).2
def spAt (s : ByteArray) (i : Nat) : Bool := if (s.data.toList.getD i 0).toNat < 128 then Lib.isSp (s.data.toList.getD i 0) else Lib.isSpaceZ (Lib.decodeGo (s.extract i s.size)).1
/-- The fields from place i on; st: where the one under way begins. -/
def fgo (s : ByteArray) : Nat → Nat → Option Nat → List ByteArray
  | 0, _, _ => []
  | f + 1, i, st =>
    if i < s.size then
      if spAt s i then match st with
        | some b => s.extract b i :: fgo s f (i + szAt s i) none
        | none => fgo s f (i + szAt s i) none
      else fgo s f (i + szAt s i) (some (st.getD i))
    else match st with
      | some b => [s.extract b s.size]
      | none => []
def fieldsS (s : ByteArray) : List ByteArray := fgo s (s.size + 1) 0 none

theorem fgo_ss {s : ByteArray} {i b f : Nat} (h : i < s.size) (hp : spAt s i = true) : fgo s (f + 1) i (some b) = s.extract b i :: fgo s f (i + szAt s i) none := by
  simp [fgo, h, hp]
theorem fgo_sn {s : ByteArray} {i f : Nat} (h : i < s.size) (hp : spAt s i = true) : fgo s (f + 1) i none = fgo s f (i + szAt s i) none := by
  simp [fgo, h, hp]
theorem fgo_ns {s : ByteArray} {i b f : Nat} (h : i < s.size) (hp : spAt s i = false) : fgo s (f + 1) i (some b) = fgo s f (i + szAt s i) (some b) := by
  simp [fgo, h, hp]
theorem fgo_nn {s : ByteArray} {i f : Nat} (h : i < s.size) (hp : spAt s i = false) : fgo s (f + 1) i none = fgo s f (i + szAt s i) (some i) := by
  simp [fgo, h, hp]
theorem fgo_es {s : ByteArray} {i b f : Nat} (h : ¬ i < s.size) : fgo s (f + 1) i (some b) = [s.extract b s.size] := by
  simp [fgo, h]
theorem fgo_en {s : ByteArray} {i f : Nat} (h : ¬ i < s.size) : fgo s (f + 1) i none = [] := by
  simp [fgo, h]

abbrev Fld : Type := {x : ByteArray // x.size ≤ 1000000}
/-- What the iterator reads: the text in its box, the library's tables. -/
structure FldAt (Bm : Nat) (W : World) (B : Nat) (s : ByteArray) : Prop where
  c0 : W.cell? ⟨B, 0, none⟩ = some (.string s)
  le : Bm ≤ W.heap.size
  libs : LibsB Bm W
theorem FldAt.on {Bm : Nat} {a b : World} {B : Nat} {s : ByteArray} (h : FldAt Bm a B s) (hk : Kept (fun _ => False) a b) : FldAt Bm b B s :=
  ⟨(hk.cell (p := ⟨B, 0, none⟩) (World.block_lt_of_cell? a _ h.c0) (fun h => h)).trans h.c0, Nat.le_trans h.le hk.size, h.libs.on (hk.below h.le (fun _ h => h.elim))⟩

def RoundF (l N : Nat) (Kp : World → World → Prop) (J Jx : List Fld → World → Prop) : Prop :=
  ∀ pre x W, J pre W → pre.length < N → YieldAt Fence.wide 1 Tryd.prog l #[Value.string x.1] W fun e W' =>
    (e = .returned (.bool true) ∧ J (pre ++ [x]) W' ∧ Kp W W') ∨ (e = .returned (.bool false) ∧ Jx (pre ++ [x]) W')

set_option maxRecDepth 100000 in
set_option maxHeartbeats 6400000 in
theorem fs1_in (Bm l B : Nat) (s : ByteArray) (Kp : World → World → Prop) (J Jx : List Fld → World → Prop) (W : World) (hs : s.size ≤ 1000000)
    (hY : RoundF l s.size Kp J Jx)
    (hKp : ∀ a b, Kp a b → FldAt Bm a B s → FldAt Bm b B s)
    (hJ : ∀ pre a b, W.heap.size ≤ a.heap.size → J pre a → Kept (fun _ => False) a b → J pre b)
    (hKs : ∀ a b, Kp a b → a.heap.size ≤ b.heap.size)
    (hA : FldAt Bm W B s) (h0 : J [] W) :
    CallsIn Fence.wide 2 Tryd.prog 60 #[.func (.yield l) #[] #[], .pointer (some ⟨B, 0, none⟩)] W fun e W' => (∃ v, e = .returned v) ∧
      ((∃ ys : List Fld, ys.map (·.1) = fieldsS s ∧ J ys W') ∨ (∃ pre : List Fld, pre.map (·.1) <+: fieldsS s ∧ Jx pre W')) := by
  have HY := Lib.hid hY; have HKP := Lib.hid hKp; have HJ := Lib.hid hJ; have HA := Lib.hid hA; have HKS := Lib.hid hKs
  have H0 := Lib.hid h0
  clear hY hKp hJ hA h0 hKs
  refine callsIn_of_wp Tryd.func60 rfl trivial ?_ rfl
  simp only [Tryd.ntmps60, List.size_toArray, List.length_cons, List.length_nil, Nat.reduceAdd, Nat.reduceSub, Array.replicate_succ, Array.replicate_zero, List.push_toArray, List.append_toArray, List.nil_append, List.cons_append]
  have c0 := HA.out.c0
  gi_wp2
  gi_loopw [3, 4] (fun sv iv wr => ∃ (k : Nat) (st : Option Nat) (f : Nat) (pre : List Fld), k ≤ s.size ∧ iv = .int .i64 k ∧ sv = .int .i64 (match st with | some b => (b : Int) | none => -1) ∧ s.size - k < f ∧ (∀ b, st = some b → b < k) ∧ pre.length ≤ st.getD k ∧ pre.map (·.1) ++ fgo s f k st = fieldsS s ∧
    W.heap.size ≤ wr.heap.size ∧ Hid (FldAt Bm wr B s) ∧ Hid (J pre wr)) (fun _ iv _ => s.size - (intOf iv).toNat)
  case atStart => exact ⟨0, none, s.size + 1, [], Nat.zero_le _, rfl, rfl, by omega, (fun b h => by cases h), Nat.le_refl _, rfl, Nat.le_refl _, HA, H0⟩
  case round =>
    obtain ⟨k, st, f, pre, hk, rfl, rfl, hf, hst, hpre, hfg, hsz, hat, hj⟩ := hrel
    clear H0 HA c0
    have c0 := hat.out.c0
    by_cases hlt : k < s.size
    · have hlt' : (k : Int) < (s.size : Int) := by omega
      obtain ⟨f', rfl⟩ : ∃ f', f = f' + 1 := ⟨f - 1, by omega⟩
      have hck : s.data.toList.getD k 0 = s[k] := by
        have h2 : k < s.data.size := hlt
        simp only [List.getD_eq_getElem?_getD, Array.getElem?_toList, Array.getElem?_eq_getElem h2, Option.getD_some]
        rfl
      have hc256 : (s[k].toNat : Int) < 256 := by have := s[k].toNat_lt; omega
      have hasc0 := hat.out.libs.at.asc s[k].toNat (by omega)
      have e8 : UInt8.ofNat s[k].toNat = s[k] := by simp
      rw [e8] at hasc0
      have hw32 : wrap32 (s[k].toNat : Int) = (s[k].toNat : Int) := IntWalk.wrap32_in _ (by omega)
      by_cases hasc : s[k].toNat < 128
      · have hz : szAt s k = 1 := by unfold szAt; rw [hck, if_pos hasc]
        have hp : spAt s k = Lib.isSp s[k] := by unfold spAt; rw [hck, if_pos hasc]
        have hasc' : (s[k].toNat : Int) < 128 := by omega
        cases hsp : Lib.isSp s[k] with
        | true =>
          rw [hsp] at hp hasc0
          simp only [if_true] at hasc0
          cases st with
          | none =>
            rw [fgo_sn hlt hp, hz] at hfg
            have HFG := Lib.hid hfg
            clear hfg hz hp hck e8 hsp hst
            gi_wp2
            go_roundw
            case rel => exact ⟨k + 1, none, f', pre, by omega, by go_num, rfl, by omega, (fun b h => by cases h), (by simp at hpre ⊢; omega), HFG.out, hsz, hat, hj⟩
            case measure => simp [intOf]; omega
          | some b =>
            have hbk := hst b rfl
            rw [fgo_ss hlt hp, hz] at hfg
            have HFG := Lib.hid hfg
            clear hfg hz hp hck e8 hsp hst
            obtain ⟨fn, tmps, assign, body, hy, hR⟩ := HY.out pre ⟨s.extract b k, by simp; omega⟩ wr hj.out (by simp at hpre; omega)
            gi_wp2
            refine hR.mono ?_
            rintro e W3 (⟨rfl, hJ3, hk3⟩ | ⟨rfl, hJx3⟩)
            · have HA3 := Lib.hid (HKP.out _ _ hk3 hat.out)
              have HJ3 := Lib.hid hJ3
              have hs3 : W.heap.size ≤ W3.heap.size := Nat.le_trans hsz (HKS.out _ _ hk3)
              clear hJ3 hk3 hy hR
              gi_wp2
              go_roundw
              case rel => exact ⟨k + 1, none, f', pre ++ [⟨s.extract b k, by simp; omega⟩], by omega, by go_num, rfl, by omega, (fun b h => by cases h), (by simp at hpre ⊢; omega), (by rw [List.map_append, List.append_assoc]; exact HFG.out), hs3, HA3, HJ3⟩
              case measure => simp [intOf]; omega
            · have HX := Lib.hid hJx3
              clear hJx3 hy hR
              gi_wp2
              refine bodyPost_ret (results_none rfl _ _ _) rfl ?_
              exact ⟨⟨_, rfl⟩, .inr ⟨_, ⟨_, by rw [List.map_append, List.append_assoc]; exact HFG.out⟩, HX.out⟩⟩
        | false =>
          rw [hsp] at hp hasc0
          simp only [if_false, Bool.false_eq_true] at hasc0
          cases st with
          | none =>
            rw [fgo_nn hlt hp, hz] at hfg
            have HFG := Lib.hid hfg
            clear hfg hz hp hck e8 hsp hst
            gi_wp2
            go_roundw
            case rel => exact ⟨k + 1, some k, f', pre, by omega, by go_num, rfl, by omega, (fun b h => by cases h; omega), (by simp at hpre ⊢; omega), HFG.out, hsz, hat, hj⟩
            case measure => simp [intOf]; omega
          | some b =>
            have hbk := hst b rfl
            rw [fgo_ns hlt hp, hz] at hfg
            have HFG := Lib.hid hfg
            clear hfg hz hp hck e8 hsp hst
            gi_wp2
            go_roundw
            case rel => exact ⟨k + 1, some b, f', pre, by omega, by go_num, rfl, by omega, (fun b h => by cases h; omega), (by simp at hpre ⊢; omega), HFG.out, hsz, hat, hj⟩
            case measure => simp [intOf]; omega
      · have hz : szAt s k = (Lib.decodeGo (s.extract k s.size)).2 := by unfold szAt; rw [hck, if_neg hasc]
        have hp : spAt s k = Lib.isSpaceZ ((Lib.decodeGo (s.extract k s.size)).1 : Nat) := by unfold spAt; rw [hck, if_neg hasc]
        have hasc' : (128 : Int) ≤ (s[k].toNat : Int) := by omega
        have hes : (s.extract k s.size).size = s.size - k := by simp
        obtain ⟨z1, z2, z3⟩ := decGo_facts (s.extract k s.size) (by omega)
        rw [hes] at z2
        have HDEC := Lib.hid (sh_Dec (s.extract k s.size))
        have HSPC := Lib.hid (sh_Space (Lib.decodeGo (s.extract k s.size)).1 z3)
        generalize (Lib.decodeGo (s.extract k s.size)).2 = Z at hz z1 z2 HDEC
        generalize (Lib.decodeGo (s.extract k s.size)).1 = R at hp z3 HDEC HSPC
        generalize (if Lib.isSp s[k] = true then (1 : Int) else 0) = q at hasc0
        clear hes
        cases hsp : Lib.isSpaceZ (R : Nat) with
        | true =>
          rw [hsp] at hp HSPC
          cases st with
          | none =>
            rw [fgo_sn hlt hp, hz] at hfg
            have HFG := Lib.hid hfg
            clear hfg hz hp hck e8 hsp hst
            gi_wp2_with (first | (refine ⟨trivial, ?_⟩; gi_at_call 61; refine (callsIn_wide.2 (HDEC.out wr hat.out.libs.at)).mono ?_; rintro e w4 ⟨rfl, hk4⟩; have HAT4 := Lib.hid (hat.out.on hk4); have HJ4 := Lib.hid (HJ.out _ _ _ hsz hj.out hk4); have hsz4 := Nat.le_trans hsz hk4.size; have c04 := HAT4.out.c0; clear hk4) | (refine ⟨trivial, ?_⟩; gi_at_call 62; refine (callsIn_wide.2 (HSPC.out w4 HAT4.out.libs.at)).mono ?_; rintro e w5 ⟨rfl, hk5⟩; have HAT5 := Lib.hid (HAT4.out.on hk5); have HJ5 := Lib.hid (HJ.out _ _ _ hsz4 HJ4.out hk5); have hsz5 := Nat.le_trans hsz4 hk5.size; have c05 := HAT5.out.c0; clear hk5))
            go_roundw
            case rel => exact ⟨k + Z, none, f', pre, by omega, by go_num, rfl, by omega, (fun b h => by cases h), (by simp at hpre ⊢; omega), HFG.out, hsz5, HAT5, HJ5⟩
            case measure => simp [intOf]; omega
          | some b =>
            have hbk := hst b rfl
            rw [fgo_ss hlt hp, hz] at hfg
            have HFG := Lib.hid hfg
            clear hfg hz hp hck e8 hsp hst
            gi_wp2_with (first | (refine ⟨trivial, ?_⟩; gi_at_call 61; refine (callsIn_wide.2 (HDEC.out wr hat.out.libs.at)).mono ?_; rintro e w4 ⟨rfl, hk4⟩; have HAT4 := Lib.hid (hat.out.on hk4); have HJ4 := Lib.hid (HJ.out _ _ _ hsz hj.out hk4); have hsz4 := Nat.le_trans hsz hk4.size; have c04 := HAT4.out.c0; clear hk4) | (refine ⟨trivial, ?_⟩; gi_at_call 62; refine (callsIn_wide.2 (HSPC.out w4 HAT4.out.libs.at)).mono ?_; rintro e w5 ⟨rfl, hk5⟩; have HAT5 := Lib.hid (HAT4.out.on hk5); have HJ5 := Lib.hid (HJ.out _ _ _ hsz4 HJ4.out hk5); have hsz5 := Nat.le_trans hsz4 hk5.size; have c05 := HAT5.out.c0; clear hk5; obtain ⟨fn, tmps, assign, body, hy, hR⟩ := HY.out pre ⟨s.extract b k, by simp; omega⟩ w5 HJ5.out (by simp at hpre; omega)))
            refine hR.mono ?_
            rintro e W3 (⟨rfl, hJ3, hk3⟩ | ⟨rfl, hJx3⟩)
            · have HA3 := Lib.hid (HKP.out _ _ hk3 HAT5.out)
              have HJ3 := Lib.hid hJ3
              have hs3 : W.heap.size ≤ W3.heap.size := Nat.le_trans hsz5 (HKS.out _ _ hk3)
              clear hJ3 hk3 hy hR
              gi_wp2
              go_roundw
              case rel => exact ⟨k + Z, none, f', pre ++ [⟨s.extract b k, by simp; omega⟩], by omega, by go_num, rfl, by omega, (fun b h => by cases h), (by simp at hpre ⊢; omega), (by rw [List.map_append, List.append_assoc]; exact HFG.out), hs3, HA3, HJ3⟩
              case measure => simp [intOf]; omega
            · have HX := Lib.hid hJx3
              clear hJx3 hy hR
              gi_wp2
              refine bodyPost_ret (results_none rfl _ _ _) rfl ?_
              exact ⟨⟨_, rfl⟩, .inr ⟨_, ⟨_, by rw [List.map_append, List.append_assoc]; exact HFG.out⟩, HX.out⟩⟩
        | false =>
          rw [hsp] at hp HSPC
          cases st with
          | none =>
            rw [fgo_nn hlt hp, hz] at hfg
            have HFG := Lib.hid hfg
            clear hfg hz hp hck e8 hsp hst
            gi_wp2_with (first | (refine ⟨trivial, ?_⟩; gi_at_call 61; refine (callsIn_wide.2 (HDEC.out wr hat.out.libs.at)).mono ?_; rintro e w4 ⟨rfl, hk4⟩; have HAT4 := Lib.hid (hat.out.on hk4); have HJ4 := Lib.hid (HJ.out _ _ _ hsz hj.out hk4); have hsz4 := Nat.le_trans hsz hk4.size; have c04 := HAT4.out.c0; clear hk4) | (refine ⟨trivial, ?_⟩; gi_at_call 62; refine (callsIn_wide.2 (HSPC.out w4 HAT4.out.libs.at)).mono ?_; rintro e w5 ⟨rfl, hk5⟩; have HAT5 := Lib.hid (HAT4.out.on hk5); have HJ5 := Lib.hid (HJ.out _ _ _ hsz4 HJ4.out hk5); have hsz5 := Nat.le_trans hsz4 hk5.size; have c05 := HAT5.out.c0; clear hk5))
            go_roundw
            case rel => exact ⟨k + Z, some k, f', pre, by omega, by go_num, rfl, by omega, (fun b h => by cases h; omega), (by simp at hpre ⊢; omega), HFG.out, hsz5, HAT5, HJ5⟩
            case measure => simp [intOf]; omega
          | some b =>
            have hbk := hst b rfl
            rw [fgo_ns hlt hp, hz] at hfg
            have HFG := Lib.hid hfg
            clear hfg hz hp hck e8 hsp hst
            gi_wp2_with (first | (refine ⟨trivial, ?_⟩; gi_at_call 61; refine (callsIn_wide.2 (HDEC.out wr hat.out.libs.at)).mono ?_; rintro e w4 ⟨rfl, hk4⟩; have HAT4 := Lib.hid (hat.out.on hk4); have HJ4 := Lib.hid (HJ.out _ _ _ hsz hj.out hk4); have hsz4 := Nat.le_trans hsz hk4.size; have c04 := HAT4.out.c0; clear hk4) | (refine ⟨trivial, ?_⟩; gi_at_call 62; refine (callsIn_wide.2 (HSPC.out w4 HAT4.out.libs.at)).mono ?_; rintro e w5 ⟨rfl, hk5⟩; have HAT5 := Lib.hid (HAT4.out.on hk5); have HJ5 := Lib.hid (HJ.out _ _ _ hsz4 HJ4.out hk5); have hsz5 := Nat.le_trans hsz4 hk5.size; have c05 := HAT5.out.c0; clear hk5))
            go_roundw
            case rel => exact ⟨k + Z, some b, f', pre, by omega, by go_num, rfl, by omega, (fun b h => by cases h; omega), (by simp at hpre ⊢; omega), HFG.out, hsz5, HAT5, HJ5⟩
            case measure => simp [intOf]; omega
    · have hkn : k = s.size := by omega
      subst hkn
      obtain ⟨f', rfl⟩ : ∃ f', f = f' + 1 := ⟨f - 1, by omega⟩
      cases st with
      | none =>
        rw [fgo_en hlt, List.append_nil] at hfg
        have HFG := Lib.hid hfg
        clear hfg hst
        gi_wp2
        go_end0
        exact ⟨⟨_, rfl⟩, .inl ⟨pre, HFG.out, hj.out⟩⟩
      | some b =>
        have hbk := hst b rfl
        rw [fgo_es hlt] at hfg
        have HFG := Lib.hid hfg
        obtain ⟨fn, tmps, assign, body, hy, hR⟩ := HY.out pre ⟨s.extract b s.size, by simp; omega⟩ wr hj.out (by simp at hpre; omega)
        clear hfg hst
        gi_wp2
        refine hR.mono ?_
        rintro e W3 (⟨rfl, hJ3, hk3⟩ | ⟨rfl, hJx3⟩)
        · have HJ3 := Lib.hid hJ3
          clear hJ3 hk3 hy hR
          gi_wp2
          go_end0
          exact ⟨⟨_, rfl⟩, .inl ⟨_, (by rw [List.map_append]; exact HFG.out), HJ3.out⟩⟩
        · have HX := Lib.hid hJx3
          clear hJx3 hy hR
          gi_wp2
          go_end0
          exact ⟨⟨_, rfl⟩, .inr ⟨_, ⟨[], by rw [List.append_nil, List.map_append]; exact HFG.out⟩, HX.out⟩⟩
end Go.Proofs.YteaagllpkcpedaaDoor
