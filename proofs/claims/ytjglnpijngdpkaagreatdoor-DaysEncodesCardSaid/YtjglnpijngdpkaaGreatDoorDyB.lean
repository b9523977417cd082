import Derived.Test.YtjglnpijngdpkaaGreatDoorDyW
import Derived.Shelf.Slices.SearchI
import Derived.Shelf.Slices.Empties
/-
  Days: turnsUpTo, Has, Next.
-/
namespace Go.Proofs.YtjglnpijngdpkaaGreatDoor
open Go.RowKit Go.Shelf
set_option linter.unusedSimpArgs false
set_option linter.unusedVariables false
set_option maxRecDepth 100000

def laysBsI_ren : Go.Shelf.Ren := ⟨fun | 25 => 76 | 31 => 98 | 32 => 99 | 37 => 72 | n => n, fun | 0 => 0 | 3 => 3 | 4 => 4 | 22 => 24 | 40 => 111 | n => n, fun | n => n⟩
theorem laysBsI : Go.Proofs.Lays2.n25 Tryz.prog laysBsI_ren := {
  mixed := by kernel_rfl
  f25 := Tryz.func76.trans (congrArg some (by kernel_rfl))
  f31 := Tryz.func98.trans (congrArg some (by kernel_rfl))
  f32 := Tryz.func99.trans (congrArg some (by kernel_rfl))
  f37 := Tryz.func72.trans (congrArg some (by kernel_rfl))
  t0 := Tryz.underlying0
  a0 := Tryz.isAgg0
  z0 := Tryz.sizeOf0
  v0 := Tryz.zeroValue0
  t3 := Tryz.underlying3
  a3 := Tryz.isAgg3
  z3 := Tryz.sizeOf3
  v3 := Tryz.zeroValue3
  t4 := Tryz.underlying4
  a4 := Tryz.isAgg4
  z4 := Tryz.sizeOf4
  v4 := Tryz.zeroValue4
  t22 := Tryz.underlying24
  a22 := Tryz.isAgg24
  z22 := Tryz.sizeOf24
  v22 := Tryz.zeroValue24
  t40 := Tryz.underlying111
  a40 := Tryz.isAgg111
  z40 := Tryz.sizeOf111
  v40 := Tryz.zeroValue111 }

theorem count_lt (t : List Int) (d : Int) : t.countP (· < d) = cntD t (d - 1) := by
  unfold cntD
  rw [List.countP_eq_length_filter]
  congr 2
  funext x
  rw [Bool.eq_iff_iff, decide_eq_true_iff, decide_eq_true_iff]; omega
theorem bsI_any (v : Value) (t : List Int) (d : Int) (w : World) (h : RowG EI w v t) (ha : t.Pairwise (· < ·)) (hl : t.length ≤ 40000) :
    Calls Tryz.prog 76 #[v, .int .i64 d] w fun e w' => e = .returned (.tuple #[.int .i64 (cntD t (d - 1) : Nat), .bool (decide (d ∈ t))]) ∧ Kept (fun _ => False) w w' := by
  rcases h with ⟨rfl, rfl⟩ | ⟨g, off, cap, rfl, h1, h2, h3, h4⟩
  · exact (Any.slices_BinarySearch_int_empty laysBsI none 0 d w).mono fun e w' ⟨h1, h2⟩ => by
      subst h2; exact ⟨h1, Kept.refl _ _⟩
  · refine (Any.slices_BinarySearch_int laysBsI g off t.length cap t d w (Nat.le_refl _) (by omega) (fun j hj => ?_) ?_).mono fun e w' ⟨h1, q, h2⟩ => ?_
    · have := h4 j hj
      have hz : EI.z = 1 := rfl
      rw [hz, Nat.mul_one] at this
      exact atEI this
    · rw [List.take_length]; exact ha.imp (fun h => by omega)
    · rw [List.take_length, count_lt] at h1
      subst h2
      refine ⟨?_, (Kept.refl _ _).drewN q⟩
      have hb : t.contains d = decide (d ∈ t) := by rw [Bool.eq_iff_iff, decide_eq_true_iff, List.contains_iff_mem]
      rw [h1, hb]

set_option maxHeartbeats 1600000 in
theorem upTo_any (s : Value) (t : List Int) (d : Int) (w0 : World) (hs : SetD w0 s t) :
    Calls Tryz.prog 58 #[s, .int .i64 d] w0 fun e w' => e = .returned (.int .i64 (cntD t d : Nat)) ∧ Kept (fun _ => False) w0 w' := by
  obtain ⟨sv, rfl, hr0, hcs⟩ := hs
  obtain ⟨sa, sc, hsf, h1, _⟩ := hr0.form
  subst hsf
  have hka : Kept (fun _ => False) w0 (w0.alloc (.cells #[.slice sa t.length sc] 26)) := Kept.alloc _ _ _
  have HKA := Lib.hid hka
  have hln := hcs.len
  have HB := Lib.hid (bsI_any _ t d _ (hr0.on hka) hcs.asc (by omega))
  have hst := cntD_step hcs.asc d
  have hle := cntD_le t d
  obtain ⟨n, hn⟩ : ∃ n, n = cntD t d := ⟨_, rfl⟩
  rw [← hn] at hst hle ⊢
  generalize cntD t (d - 1) = m at HB hst
  clear hr0 hcs hka hn
  by_cases hm : d ∈ t
  · rw [if_pos hm] at hst
    rw [decide_eq_true hm] at HB
    subst hst
    have hw : IntKind.i64.wrap ((m : Int) + 1) = (m : Int) + 1 := IntWalk.i64_in _ (by omega)
    clear hm
    go_enter Tryz.func58, Tryz.ntmps58
    go_wp2_with fail
    refine HB.out.mono ?_
    rintro e w2 ⟨rfl, k2⟩
    have HK2 := Lib.hid (HKA.out.then k2)
    clear k2 HB
    go_wp2_with fail
    go_ret
    exact ⟨rfl, HK2.out⟩
  · rw [if_neg hm, Nat.add_zero] at hst
    rw [decide_eq_false hm] at HB
    subst hst
    clear hm
    go_enter Tryz.func58, Tryz.ntmps58
    go_wp2_with fail
    refine HB.out.mono ?_
    rintro e w2 ⟨rfl, k2⟩
    have HK2 := Lib.hid (HKA.out.then k2)
    clear k2 HB
    go_wp2_with fail
    go_ret
    exact ⟨rfl, HK2.out⟩

set_option maxHeartbeats 1600000 in
theorem hasD_any (s : Value) (t : List Int) (d : Int) (w0 : World) (hs : SetD w0 s t) :
    Calls Tryz.prog 41 #[s, .int .i64 d] w0 fun e w' => e = .returned (.bool (inD t d)) ∧ Kept (fun _ => False) w0 w' := by
  have hsW := hs
  obtain ⟨sv, rfl, hr0, hcs⟩ := hs
  obtain ⟨sa, sc, hsf, h1, _⟩ := hr0.form
  subst hsf
  have HKA := Lib.hid (Kept.alloc (fun _ => False) w0 (.cells #[.slice sa t.length sc] 26))
  have HB := Lib.hid (upTo_any _ t d _ (hsW.on HKA.out))
  have HI := Lib.hid (fun W => insideD_any (cntD t d) W)
  change Hid (∀ W, Calls _ _ _ W fun e w' => e = .returned (.bool (inD t d)) ∧ _) at HI
  generalize inD t d = V at *
  generalize cntD t d = n at *
  clear hr0 hcs hsW
  go_enter Tryz.func41, Tryz.ntmps41
  go_wp2_with fail
  refine HB.out.mono ?_
  rintro e w2 ⟨rfl, k2⟩
  have HK2 := Lib.hid (HKA.out.then k2)
  clear k2 HB
  go_wp2_with fail
  refine (HI.out _).mono ?_
  rintro e w3 ⟨rfl, rfl⟩
  go_wp2_with fail
  go_ret
  exact ⟨rfl, HK2.out⟩

/-- The first day of a set from a day on. -/
def NextD (t : List Int) (d n : Int) (ok : Bool) : Prop := (ok = true ∧ d ≤ n ∧ inD t n = true ∧ ∀ e, d ≤ e → e < n → inD t e = false) ∨ (ok = false ∧ n = 0 ∧ ∀ e, d ≤ e → inD t e = false)
theorem next_in {t : List Int} {d : Int} (h : inD t d = true) : NextD t d d true := Or.inl ⟨rfl, Int.le_refl _, h, fun e h1 h2 => by omega⟩
theorem cnt_at {t : List Int} (h : t.Pairwise (· < ·)) {d : Int} : ∀ x ∈ t.take (cntD t d), x ≤ d := by
  induction t with
  | nil => simp
  | cons y t ih =>
    obtain ⟨h1, h2⟩ := List.pairwise_cons.1 h
    rw [cntD_cons]
    by_cases hy : y ≤ d
    · rw [if_pos hy, Nat.add_comm, List.take_succ_cons]
      intro x hx
      rcases List.mem_cons.1 hx with e | e
      · omega
      · exact ih h2 x e
    · have : cntD t d = 0 := cntD_none fun x hx => by have := h1 x hx; omega
      rw [if_neg hy, this]; simp
theorem cnt_after {t : List Int} (h : t.Pairwise (· < ·)) {d : Int} : ∀ x ∈ t.drop (cntD t d), d < x := by
  induction t with
  | nil => simp
  | cons y t ih =>
    obtain ⟨h1, h2⟩ := List.pairwise_cons.1 h
    rw [cntD_cons]
    by_cases hy : y ≤ d
    · rw [if_pos hy, Nat.add_comm, List.drop_succ_cons]
      exact ih h2
    · have : cntD t d = 0 := cntD_none fun x hx => by have := h1 x hx; omega
      rw [if_neg hy, this]
      intro x hx
      rcases List.mem_cons.1 (by simpa using hx) with e | e
      · omega
      · have := h1 x e; omega
theorem next_out {t : List Int} (hc : CanD t) {d : Int} (h : inD t d = false) (hl : cntD t d < t.length) : NextD t d (turnD t (cntD t d)) true := by
  have ha := cnt_at hc.asc (d := d)
  have hb := cnt_after hc.asc (d := d)
  have hm := (turnD_lt hl).1
  have hlt := hb _ hm
  have hmid : ∀ e, d ≤ e → e < turnD t (cntD t d) → cntD t e = cntD t d := fun e h1 h2 => by
    refine cntD_split _ (Nat.le_of_lt hl) (fun x hx => by have := ha x hx; omega) fun x hx => ?_
    have e1 : t.drop (cntD t d) = turnD t (cntD t d) :: t.drop (cntD t d + 1) := by unfold turnD; rw [List.drop_eq_getElem_cons hl]; simp [List.getD, hl]
    rw [e1] at hx
    rcases List.mem_cons.1 hx with e2 | e2
    · omega
    · have := (turnD_lt hl).2 x e2 hc.asc; omega
  refine Or.inl ⟨rfl, by omega, ?_, fun e h1 h2 => ?_⟩
  · have hmem : turnD t (cntD t d) ∈ t := List.mem_of_mem_drop hm
    have h3 := (mem_inD hc.asc _).1 hmem
    have h4 : inD t (turnD t (cntD t d) - 1) = false := by
      unfold inD
      rw [hmid _ (by omega) (by omega)]
      exact h
    rw [h4] at h3
    cases hh : inD t (turnD t (cntD t d)) with
    | true => rfl
    | false => exact absurd hh h3
  · unfold inD
    rw [hmid e h1 h2]
    exact h
theorem next_none {t : List Int} (hc : CanD t) {d : Int} (h : inD t d = false) (hl : ¬ cntD t d < t.length) : NextD t d 0 false := by
  refine Or.inr ⟨rfl, rfl, fun e he => ?_⟩
  have h1 : cntD t d = t.length := by have := cntD_le t d; omega
  have ha := cnt_at hc.asc (d := d)
  rw [h1, List.take_length] at ha
  unfold inD at h ⊢
  rw [cntD_all fun x hx => by have := ha x hx; omega, ← h1]
  exact h

set_option maxHeartbeats 3200000 in
theorem nextD_any (s : Value) (t : List Int) (d : Int) (w0 : World) (hs : SetD w0 s t) :
    Calls Tryz.prog 28 #[s, .int .i64 d] w0 fun e w' => ∃ n ok, e = .returned (.tuple #[.int .i64 n, .bool ok]) ∧ NextD t d n ok ∧ Kept (fun _ => False) w0 w' := by
  have hsW := hs
  obtain ⟨sv, rfl, hr0, hcs⟩ := hs
  obtain ⟨sa, sc, hsf, h1, h2⟩ := hr0.form
  subst hsf
  have hln := hcs.len
  have hka : Kept (fun _ => False) w0 (w0.alloc (.cells #[.slice sa t.length sc] 26)) := Kept.alloc _ _ _
  have HKA := Lib.hid hka
  have HB := Lib.hid (upTo_any _ t d _ (hsW.on HKA.out))
  have HI := Lib.hid (fun W => insideD_any (cntD t d) W)
  change Hid (∀ W, Calls _ _ _ W fun e w' => e = .returned (.bool (inD t d)) ∧ _) at HI
  have HCS : Hid ((w0.alloc (.cells #[.slice sa t.length sc] 26)).cell? ⟨w0.heap.size, 0, none⟩ = some (.slice sa t.length sc)) := Lib.hid (by go_simp)
  have HR := Lib.hid (hr0.on hka)
  have hN1 : inD t d = true → NextD t d d true := next_in
  have hN2 : inD t d = false → cntD t d < t.length → NextD t d (turnD t (cntD t d)) true := next_out hcs
  have hN3 : inD t d = false → ¬ cntD t d < t.length → NextD t d 0 false := next_none hcs
  have HN1 := Lib.hid hN1; have HN2 := Lib.hid hN2; have HN3 := Lib.hid hN3
  generalize inD t d = V at *
  have hnl := cntD_le t d
  generalize cntD t d = n at *
  unfold maxLen at h2
  clear hr0 hcs hsW hka hN1 hN2 hN3
  go_enter Tryz.func28, Tryz.ntmps28
  go_wp2_with fail
  refine HB.out.mono ?_
  generalize w0.alloc (.cells #[.slice sa t.length sc] 26) = w at *
  obtain ⟨Q, hQ⟩ : ∃ Q, Q = w0.heap.size := ⟨_, rfl⟩
  rw [← hQ] at HCS ⊢
  clear hQ
  rintro e w2 ⟨rfl, k2⟩
  have c0 := (k2.cell (World.block_lt_of_cell? w _ HCS.out) (fun h => h)).trans HCS.out
  have HR2 := Lib.hid (HR.out.on k2)
  have HK2 := Lib.hid (HKA.out.then k2)
  clear k2 HB HR HCS
  go_wp2_with fail
  refine (HI.out _).mono ?_
  rintro e w3 ⟨rfl, rfl⟩
  clear HI
  cases V with
  | true =>
    have HRES := Lib.hid (HN1.out rfl)
    clear HN1 HN2 HN3 HR2
    go_wp2_with fail
    go_ret2
    first | exact ⟨_, _, rfl, HRES.out, HK2.out⟩ | exact ⟨_, rfl, HRES.out, HK2.out⟩
  | false =>
    by_cases hlt : n < t.length
    · have HRES := Lib.hid (HN2.out rfl hlt)
      have l1 : (n : Int) < (t.length : Int) := by omega
      have l0 : (0 : Int) ≤ (n : Int) := by omega
      obtain ⟨g, off, rfl, hg, hc⟩ := HR2.out.at (k := n) hlt
      have hz : EI.z = 1 := rfl
      rw [hz, Nat.mul_one] at hc
      have cc := atEI hc
      have hd : t.getD n EI.d = turnD t n := by unfold turnD; simp [List.getD, hlt]
      rw [hd] at cc
      generalize turnD t n = x at *
      clear hc hg hd hz HN1 HN2 HN3 HR2
      go_wp2_with fail
      go_ret2
      first | exact ⟨_, _, rfl, HRES.out, HK2.out⟩ | exact ⟨_, rfl, HRES.out, HK2.out⟩
    · have HRES := Lib.hid (HN3.out rfl hlt)
      have l1 : ¬ (n : Int) < (t.length : Int) := by omega
      clear HN1 HN2 HN3 HR2
      go_wp2_with fail
      go_ret2
      first | exact ⟨_, _, rfl, HRES.out, HK2.out⟩ | exact ⟨_, rfl, HRES.out, HK2.out⟩
end Go.Proofs.YtjglnpijngdpkaaGreatDoor
