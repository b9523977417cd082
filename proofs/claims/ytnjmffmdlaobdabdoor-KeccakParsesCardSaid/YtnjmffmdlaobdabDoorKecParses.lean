/-
  arbaclaw03.KeccakParses returns true.
-/
import Derived.Test.YtnjmffmdlaobdabDoorKecF
namespace Go.Proofs.YtnjmffmdlaobdabDoor
open Go.RowKit

/-- A store of a whole array behind which the world has a name. -/
theorem wpList_store_stop {P : Program} {ops : Array Oper} {rest : List Oper} {o : Oper} {a : Act} {w : World} {Q : Exit → Act → World → Prop} (hgd : o.guard = none) (ty : TypeId) (x y : Operand) (ho : o.op = .store ty x y)
    (g off : Nat) (cs : List Value) (hx : a.eval x = .pointer (some ⟨g, off, none⟩)) (hy : a.eval y = .agg cs.toArray)
    (hc : ∀ j, j < cs.length → (w.cell? ⟨g, off + j, none⟩).isSome = true) (hf : ∀ j, j < cs.length → w.frozen? ⟨g, off + j, none⟩ = false) (h1 : ∀ v ∈ cs, v.oneCell' = true)
    (hi : (P.info? ty).map (·.size) = some cs.length)
    (h : ∀ w', Hid (w' = w.setCells g off cs) → wpList P ops Q rest (a.put o.dst undef) w') : wpList P ops Q (o :: rest) a w :=
  wpList_store_at hgd ty x y ho g off cs hx hy hc hf h1 hi (h _ rfl)

set_option maxRecDepth 100000 in
set_option maxHeartbeats 1600000 in
theorem parses_any (s : ByteArray) (w : World) (hT : KTab w) :
    Calls Tryd.prog 10 #[.string s] w fun e w' => e = .returned (.bool true) ∧ Kept (fun _ => False) w w' := by
  obtain ⟨ss, rfl, hb⟩ := str_list s
  have HT := Lib.hid hT
  have PA := fun W => parse_any W ss hb
  have RP := fun W => rparse_any W ss hb
  have hlen := parV_length ss
  have TX := fun (hlt : ∀ x ∈ parV ss, x < 256) W => text_any W (parV ss) hlen hlt
  have hplt : ∀ x ∈ parV ss, x < 256 := by
    intro x hx
    simp only [parV, List.mem_map, List.mem_range] at hx
    obtain ⟨i, _, rfl⟩ := hx
    have b1 := dv_lt (ss.getD (2 * i) 0); have b2 := dv_lt (ss.getD (2 * i + 1) 0)
    unfold pV; omega
  change ∀ hlt W, Calls _ _ _ W (fun e w' => e = .returned (.string (strN (texL (parV ss)))) ∧ _) at TX
  have TP := Lib.hid (fun h64 hok => congrArg strN (tex_par ss h64 hok))
  obtain ⟨S, hS⟩ : ∃ S, S = strN ss := ⟨_, rfl⟩
  rw [← hS] at PA RP TP
  have HPA := Lib.hid PA; have HRP := Lib.hid RP; have HTX := Lib.hid (TX hplt); have HLEN := Lib.hid hlen
  rw [← hS]
  clear hT PA RP TX hb hlen hplt hS
  go_enter Tryd.func10, Tryd.ntmps10
  go_wp2_with fail
  refine (awake3_any w HT.out).mono ?_
  rintro e w1 ⟨rfl, k1⟩
  go_wp2_with fail
  refine (HPA.out w1).mono ?_
  rintro e w2 ⟨k2, (⟨h64, hok, rfl⟩ | ⟨hbad, rfl⟩)⟩
  · have i2 := in32 25 size32 (parV ss) w2 HLEN.out
    have EQ := Lib.hid (fun W => eq32 W (parV ss) (parV ss) HLEN.out HLEN.out)
    have AG := Lib.hid (fun (w : World) (g : Nat) (h : Blk w g 0 (parV ss)) => h.get)
    have q1 := fun W => (in32 24 size32b (parV ss) W HLEN.out).z1
    have q2 := fun W => (in32 24 size32b (parV ss) W HLEN.out).z2
    have q3 := (in32 24 size32b (parV ss) w2 HLEN.out).size
    have q4 := fun W => (in32 24 size32b (parV ss) W HLEN.out).blk
    have q5 := fun W => (in32 24 size32b (parV ss) W HLEN.out).kept
    have Q1 := Lib.hid q1; have Q2 := Lib.hid q2; have Q4 := Lib.hid q4; have Q5 := Lib.hid q5; have YZ := Lib.hid q3
    clear q1 q2 q3 q4 q5
    have RPO : Hid (∀ W, Calls Tryd.prog 38 #[.string S] W fun e w' => Kept (fun _ => False) W w' ∧ e = .returned (.tuple #[.agg (arr8 (parV ss)).toArray, .bool true])) := fun W => (HRP.out W).mono fun e w' ⟨hk, h⟩ => ⟨hk, by
      rcases h with ⟨_, _, h⟩ | ⟨h, _⟩
      · exact h
      · exact absurd h (by
          rintro (h | ⟨i, hi, h⟩)
          · exact h h64
          · exact h (hok i hi))⟩
    have TPO := TP.out h64 hok
    rw [TPO] at HTX
    have K2 := Lib.hid (k1.then k2)
    clear k1 k2 HPA HRP TP TPO hok h64
    have Z1 := Lib.hid i2.z1; have Z2 := Lib.hid i2.z2; have HO := Lib.hid i2.one; have HSZ := Lib.hid i2.size; have HB3 := Lib.hid i2.blk; have N3 := Lib.hid i2.lt
    have K3 := Lib.hid (K2.out.then i2.kept)
    clear i2
    generalize arr8 (parV ss) = cs at *
    go_wp2_with (first | (refine wpList_store_at rfl 25 _ _ rfl w2.heap.size 0 cs rfl rfl Z1.out Z2.out HO.out HSZ.out ?_))
    refine (RPO.out _).mono ?_
    rintro e w4 ⟨k4, rfl⟩
    have B4 := HB3.out.kept k4 N3.out (fun h => h)
    have K4 := Lib.hid (K3.out.then k4)
    have n4 := Nat.lt_of_lt_of_le N3.out k4.size
    have Y1 := Lib.hid (Q1.out w4); have Y2 := Lib.hid (Q2.out w4)
    have b5 := AG.out _ _ (B4.kept (Q5.out w4) n4 (fun h => h))
    have d5 := AG.out _ _ (Q4.out w4)
    have k5 := K4.out.then (Q5.out w4)
    have hne : w4.heap.size ≠ w2.heap.size := by omega
    have he := fun W => EQ.out W
    simp only [decide_true] at he
    clear B4 n4 k4 K4 Z1 Z2 HB3 N3 K3 Q1 Q2 Q4 Q5 RPO hne EQ AG
    go_wp2_with (first | (refine wpList_store_stop rfl 24 _ _ rfl w4.heap.size 0 cs rfl rfl Y1.out Y2.out HO.out YZ.out ?_))
    intro w5 hw5
    have hw5' : w5 = (w4.alloc (.cells zero32.toArray 24)).setCells w4.heap.size 0 cs := hw5.out
    clear hw5
    rw [← hw5'] at b5 d5 k5
    clear hw5' Y1 Y2
    have he := he w5
    have B5 := Lib.hid b5; have D5 := Lib.hid d5; have K5 := Lib.hid k5
    clear b5 d5 k5
    go_wp2_with (first | (refine wpList_load_w (by rfl) 25 _ rfl w2.heap.size 0 rfl cs _ B5.out Tryd.underlying25 rfl HSZ.out ?_) | (refine wpList_load_w (by rfl) 24 _ rfl w4.heap.size 0 rfl cs _ D5.out Tryd.underlying24 rfl YZ.out ?_))
    refine (HTX.out _).mono ?_
    rintro e w6 ⟨rfl, k6⟩
    have K6 := Lib.hid (K5.out.then k6)
    clear k6 he
    go_wp2_with fail
    go_ret
    exact ⟨rfl, K6.out⟩
  · have i2 := in32 25 size32 (List.replicate 32 0) w2 rfl
    have q1 : ∀ W : World, ∀ j, j < zero32.length → ((W.alloc (.cells zero32.toArray 24)).cell? ⟨W.heap.size, 0 + j, none⟩).isSome = true := fun W => (in32 24 size32b (List.replicate 32 0) W rfl).z1
    have q2 : ∀ W : World, ∀ j, j < zero32.length → (W.alloc (.cells zero32.toArray 24)).frozen? ⟨W.heap.size, 0 + j, none⟩ = false := fun W => (in32 24 size32b (List.replicate 32 0) W rfl).z2
    have q3 : (Tryd.prog.info? 24).map (·.size) = some zero32.length := (in32 24 size32b (List.replicate 32 0) w2 rfl).size
    have q5 : ∀ W : World, Kept (fun _ => False) W ((W.alloc (.cells zero32.toArray 24)).setCells W.heap.size 0 zero32) := fun W => (in32 24 size32b (List.replicate 32 0) W rfl).kept
    have Q1 := Lib.hid q1; have Q2 := Lib.hid q2; have Q5 := Lib.hid q5; have YZ := Lib.hid q3
    clear q1 q2 q3 q5
    have AG : Hid (∀ (w : World) (g : Nat), Blk w g 0 (List.replicate 32 0) → ∀ j v, zero32[j]? = some v → w.cell? ⟨g, 0 + j, none⟩ = some v) := fun w g h => h.get
    have RPO : Hid (∀ W, Calls Tryd.prog 38 #[.string S] W fun e w' => Kept (fun _ => False) W w' ∧ e = .returned (.tuple #[.agg zero32.toArray, .bool false])) := fun W => (HRP.out W).mono fun e w' ⟨hk, h⟩ => ⟨hk, by
      rcases h with ⟨h64, hok, _⟩ | ⟨_, h⟩
      · exact absurd hbad (by
          rintro (h | ⟨i, hi, h⟩)
          · exact h h64
          · exact h (hok i hi))
      · exact h⟩
    have K2 := Lib.hid (k1.then k2)
    have HE : Hid (∀ W, (Op.equalIn 10000 25 (.agg zero32.toArray) (.agg #[.int .u8 0, .int .u8 0, .int .u8 0, .int .u8 0, .int .u8 0, .int .u8 0, .int .u8 0, .int .u8 0, .int .u8 0, .int .u8 0, .int .u8 0, .int .u8 0, .int .u8 0, .int .u8 0, .int .u8 0, .int .u8 0, .int .u8 0, .int .u8 0, .int .u8 0, .int .u8 0, .int .u8 0, .int .u8 0, .int .u8 0, .int .u8 0, .int .u8 0, .int .u8 0, .int .u8 0, .int .u8 0, .int .u8 0, .int .u8 0, .int .u8 0, .int .u8 0])).run Tryd.prog W = .ok true W) := fun W => by
      have := eq32 W (List.replicate 32 0) (List.replicate 32 0) rfl rfl
      rw [decide_eq_true rfl] at this
      exact this
    clear k1 k2 HPA HRP TP hbad HTX
    have Z1 : Hid (∀ j, j < zero32.length → ((w2.alloc (.cells zero32.toArray 25)).cell? ⟨w2.heap.size, 0 + j, none⟩).isSome = true) := i2.z1
    have Z2 : Hid (∀ j, j < zero32.length → (w2.alloc (.cells zero32.toArray 25)).frozen? ⟨w2.heap.size, 0 + j, none⟩ = false) := i2.z2
    have HO : Hid (∀ v ∈ zero32, v.oneCell' = true) := i2.one
    have HSZ : Hid ((Tryd.prog.info? 25).map (·.size) = some zero32.length) := i2.size
    have b3 : Blk ((w2.alloc (.cells zero32.toArray 25)).setCells w2.heap.size 0 zero32) w2.heap.size 0 (List.replicate 32 0) := i2.blk
    have n3 : w2.heap.size < ((w2.alloc (.cells zero32.toArray 25)).setCells w2.heap.size 0 zero32).heap.size := i2.lt
    have k3 : Kept (fun _ => False) w2 ((w2.alloc (.cells zero32.toArray 25)).setCells w2.heap.size 0 zero32) := i2.kept
    have k3' := K2.out.then k3
    clear i2
    go_wp2_with (first | (refine wpList_store_stop rfl 25 _ _ rfl w2.heap.size 0 zero32 rfl rfl Z1.out Z2.out HO.out HSZ.out ?_))
    intro w3 hw3
    have hw3' : w3 = (w2.alloc (.cells zero32.toArray 25)).setCells w2.heap.size 0 zero32 := hw3.out
    rw [← hw3'] at b3 n3 k3 k3'
    have HB3 := Lib.hid b3; have N3 := Lib.hid n3; have K3 := Lib.hid k3'
    clear hw3 hw3' b3 n3 k3 k3' Z1 Z2
    go_wp2_with fail
    refine (RPO.out _).mono ?_
    rintro e w4 ⟨k4, rfl⟩
    have B4 := HB3.out.kept k4 N3.out (fun h => h)
    have K4 := Lib.hid (K3.out.then k4)
    have n4 := Nat.lt_of_lt_of_le N3.out k4.size
    have Y1 := Lib.hid (Q1.out w4); have Y2 := Lib.hid (Q2.out w4)
    have b5 := AG.out _ _ (B4.kept (Q5.out w4) n4 (fun h => h))
    have k5 := K4.out.then (Q5.out w4)
    clear B4 n4 k4 K4 HB3 N3 K3 Q1 Q2 Q5 RPO AG
    go_wp2_with (first | (refine wpList_store_stop rfl 24 _ _ rfl w4.heap.size 0 zero32 rfl rfl Y1.out Y2.out HO.out YZ.out ?_))
    intro w5 hw5
    have hw5' : w5 = (w4.alloc (.cells zero32.toArray 24)).setCells w4.heap.size 0 zero32 := hw5.out
    clear hw5
    have b5 : ∀ j v, zero32[j]? = some v → ((w4.alloc (.cells zero32.toArray 24)).setCells w4.heap.size 0 zero32).cell? ⟨w2.heap.size, 0 + j, none⟩ = some v := b5
    rw [← hw5'] at b5 k5
    clear hw5' Y1 Y2
    have he := HE.out w5
    have B5 := Lib.hid b5; have K5 := Lib.hid k5
    clear b5 k5 HE
    go_wp2_with (first | (refine wpList_load_w (by rfl) 25 _ rfl w2.heap.size 0 rfl zero32 _ B5.out Tryd.underlying25 rfl HSZ.out ?_))
    go_ret
    exact ⟨rfl, K5.out⟩
end Go.Proofs.YtnjmffmdlaobdabDoor
