/-
  arbacref01: With, Of, Below.
-/
import Derived.Test.YteaagllpkcpedaaDoorBRw
import Derived.Lib.SmallJoins
namespace Go.Proofs.YteaagllpkcpedaaDoor
open Go.RowKit

set_option maxRecDepth 100000 in
set_option maxHeartbeats 3200000 in
theorem rwith_same (w : World) (v : Value) (xs : List Int) (i : Int) (h : Ints w v xs) (hl : xs.length ≤ 10000) (hc : i < 0 ∨ (0 ≤ i ∧ 4095 < i) ∨ (0 ≤ i ∧ i ≤ 4095 ∧ i ∈ xs)) :
    Calls Tryd.prog 18 #[v, .int .i64 i] w fun e w' => ∃ u, e = .returned u ∧ OwnI w' w.heap.size u xs ∧ Kept (fun _ => False) w w' := by
  have HI := Lib.hid h
  obtain ⟨a, c, rfl⟩ := h.form
  obtain ⟨a', c', w', hr, ho, hk⟩ := append_ints_run (own_new w) (h.kept (Kept.alloc (fun _ => False) w _) (fun _ _ h => h)) (by simp; omega) (by simp)
  have HR := Lib.hid hr; have HO := Lib.hid ho
  have HK : Hid (Kept (fun _ => False) w w') := (Kept.alloc (fun _ => False) w _).trans hk (fun _ _ h => h) (fun i hi e => by simp [Value.ownBlock] at e; omega)
  clear h hr ho hk hl
  have run : ∀ (b : Bool), b = true → True := fun _ _ => trivial
  rcases hc with h0 | ⟨h0, h1⟩ | ⟨h0, h1, h2⟩
  · go_enter Tryd.func18, Tryd.ntmps18
    go_wp2_with (at_builtin; refine wpList_appendI_run (by rfl) _ _ _ _ rfl _ _ rfl rfl HR.out ?_)
    go_wp2
    go_ret
    exact ⟨_, rfl, by simpa using HO.out, HK.out⟩
  · go_enter Tryd.func18, Tryd.ntmps18
    go_wp2_with (at_builtin; refine wpList_appendI_run (by rfl) _ _ _ _ rfl _ _ rfl rfl HR.out ?_)
    go_wp2
    go_ret
    exact ⟨_, rfl, by simpa using HO.out, HK.out⟩
  · have HM : Hid (decide (i ∈ xs) = true) := by show _ = _; simpa using h2
    clear h2
    go_enter Tryd.func18, Tryd.ntmps18
    go_wp2_with fail
    refine (rhas_any _ _ xs i HI.out).mono ?_
    rintro e w1 ⟨rfl, rfl⟩
    rw [HM.out]
    go_wp2_with (at_builtin; refine wpList_appendI_run (by rfl) _ _ _ _ rfl _ _ rfl rfl HR.out ?_)
    go_wp2
    go_ret
    exact ⟨_, rfl, by simpa using HO.out, HK.out⟩

set_option maxRecDepth 100000 in
set_option maxHeartbeats 3200000 in
theorem rwith_new (w : World) (v : Value) (xs : List Int) (i : Int) (h : Ints w v xs) (hl : xs.length ≤ 10000) (h0 : 0 ≤ i) (h1 : i ≤ 4095) (hm : ¬ i ∈ xs) :
    Calls Tryd.prog 18 #[v, .int .i64 i] w fun e w' => ∃ u, e = .returned u ∧ OwnI w' w.heap.size u (if (insL i xs).2 then (insL i xs).1 else (insL i xs).1 ++ [i]) ∧ Kept (fun _ => False) w w' := by
  have HI := Lib.hid h
  obtain ⟨a, c, rfl⟩ := h.form
  have hcell : ∀ k, k < xs.length → ∃ g off, a = some ⟨g, off, none⟩ ∧ ∀ W, Kept (fun _ => False) w W → W.cell? ⟨g, off + k, none⟩ = some (.int .i64 (xs.getD k 0)) := by
    intro k hk
    rcases h with ⟨_, rfl⟩ | ⟨g, off, cap, e, _, _, h3, h4⟩
    · simp at hk
    · cases e
      exact ⟨g, off, rfl, fun W hkw => (hkw.cell (p := ⟨g, off + k, none⟩) h3 (fun h => h)).trans (h4 k hk)⟩
  have HC := Lib.hid hcell
  have HM : Hid (decide (i ∈ xs) = false) := by show _ = _; simpa using hm
  have HL := Lib.hid hl
  have hlb : xs.length ≤ 9223372036854775807 := by omega
  obtain ⟨R, hR⟩ : ∃ R, R = if (insL i xs).2 then (insL i xs).1 else (insL i xs).1 ++ [i] := ⟨_, rfl⟩
  rw [← hR]
  have HR := Lib.hid hR
  clear h hcell hm hl hR
  go_enter Tryd.func18, Tryd.ntmps18
  go_wp2_with fail
  refine (rhas_any _ _ xs i HI.out).mono ?_
  rintro e w1 ⟨rfl, rfl⟩
  rw [HM.out]
  go_wp2_with fail
  go_loopw [5, 6, 25] (fun ov dv iv wr => ∃ (k : Nat) (acc : List Int) (done : Bool), k ≤ xs.length ∧ iv = .int .i64 k ∧ dv = .bool done ∧ Hid (insL i (xs.take k) = (acc, done)) ∧ Hid (acc.length ≤ 2 * k) ∧ Hid (OwnI wr w.heap.size ov acc) ∧ Hid (Kept (fun _ => False) w wr)) (fun _ _ iv _ => xs.length - (intOf iv).toNat)
  case atStart => exact ⟨0, [], false, Nat.zero_le _, rfl, rfl, rfl, Nat.le_refl _, OwnI.nil _ _, Kept.refl _ _⟩
  case round =>
    obtain ⟨k, acc, done, hk, rfl, rfl, hins, hal, ho, hkw⟩ := hrel
    by_cases hlt : k < xs.length
    · have hlt' : (k : Int) < (xs.length : Int) := by omega
      obtain ⟨g, off, rfl, hck⟩ := HC.out k hlt
      obtain ⟨x, hx⟩ : ∃ x, x = xs.getD k 0 := ⟨_, rfl⟩
      have hstep := insL_take i xs k hlt
      rw [hins.out, ← hx] at hstep
      rw [← hx] at hck
      have HS := Lib.hid hstep
      have HCK := Lib.hid hck
      have ck := hck wr hkw.out
      clear hx hstep hck
      have HB : Hid (acc.length ≤ 900000) := by have := hal.out; have := HL.out; show _ ≤ _; omega
      by_cases hd : i < x ∧ done = false
      · obtain ⟨hd1, rfl⟩ := hd
        have HS2 : Hid (insL i (xs.take (k + 1)) = (acc ++ [i] ++ [x], true)) := by show _ = _; rw [HS.out]; simp [insS, hd1]
        clear HS hins
        go_wp2_with (at_builtin; refine wpList_push (by rfl) _ _ rfl rfl w.heap.size _ _ wr.heap.size i rfl rfl (ho.out.alloc _) (by go_simp) (HB.out) (by have := hkw.out.size; simp; omega) ?_)
        intro v' w3 hown' hgrow3
        have HO : Hid (OwnI w3 w.heap.size v' (acc ++ [i])) := hown'
        have HK3 : Hid (Kept (fun _ => False) w w3) := (hkw.out.then (Kept.alloc _ _ _)).trans hgrow3 (fun _ _ h => h) (fun i hi e => by have := ho.out.lt i e; omega)
        have HB1 : Hid ((acc ++ [i]).length ≤ 900000) := by show _ ≤ _; have := hal.out; have := HL.out; simp; omega
        clear hgrow3 hown' ck
        go_wp2_with (at_builtin; refine wpList_push (by rfl) _ _ rfl rfl w.heap.size _ _ w3.heap.size x rfl rfl (HO.out.alloc _) (by go_simp) (HB1.out) (by have := HK3.out.size; simp; omega) ?_)
        intro v4 w4 hown4 hgrow4
        have HO4 : Hid (OwnI w4 w.heap.size v4 (acc ++ [i] ++ [x])) := by show OwnI _ _ _ _; rw [List.append_assoc]; exact hown4
        have HK4 : Hid (Kept (fun _ => False) w w4) := (HK3.out.then (Kept.alloc _ _ _)).trans hgrow4 (fun _ _ h => h) (fun i hi e => by have := HO.out.lt i e; omega)
        clear hgrow4 hown4
        go_wp2
        go_roundw
        case rel => exact ⟨k + 1, acc ++ [i] ++ [x], true, by omega, by go_num, rfl, HS2, (by have := hal.out; show _ ≤ _; simp; omega), HO4, HK4⟩
        case measure => simp [intOf]; omega
      · have HS2 : Hid (insL i (xs.take (k + 1)) = (acc ++ [x], done)) := by show _ = _; rw [HS.out]; simp only [insS]; rw [if_neg hd]
        have hcs : (¬ i < x ∧ (decide (i < x)) = false) ∨ (i < x ∧ done = true) := by
          by_cases h : i < x
          · exact Or.inr ⟨h, by cases done; exact absurd ⟨h, rfl⟩ hd; rfl⟩
          · exact Or.inl ⟨h, by simpa using h⟩
        clear HS hins hd
        rcases hcs with ⟨hx1, hx2⟩ | ⟨hx1, rfl⟩
        all_goals
          go_wp2_with (at_builtin; refine wpList_push (by rfl) _ _ rfl rfl w.heap.size _ _ wr.heap.size x rfl rfl (ho.out.alloc _) (by go_simp) (HB.out) (by have := hkw.out.size; simp; omega) ?_)
          intro v' w3 hown' hgrow3
          have HO : Hid (OwnI w3 w.heap.size v' (acc ++ [x])) := hown'
          have HK3 : Hid (Kept (fun _ => False) w w3) := (hkw.out.then (Kept.alloc _ _ _)).trans hgrow3 (fun _ _ h => h) (fun i hi e => by have := ho.out.lt i e; omega)
          clear hgrow3 hown' ck
          go_wp2
          go_roundw
          case rel => exact ⟨k + 1, acc ++ [x], _, by omega, by go_num, rfl, HS2, (by have := hal.out; show _ ≤ _; simp; omega), HO, HK3⟩
          case measure => simp [intOf]; omega
    · have hkx : k = xs.length := by omega
      have hins2 := hins.out
      rw [hkx, List.take_length] at hins2
      have HIN := Lib.hid hins2
      have HB : Hid (acc.length ≤ 900000) := by have := hal.out; have := HL.out; show _ ≤ _; omega
      have hnl : ¬ (k : Int) < (xs.length : Int) := by omega
      clear hkx hins2 hins
      cases done with
      | true =>
        go_wp2_with fail
        go_ret
        exact ⟨_, rfl, by rw [HR.out, HIN.out]; exact ho.out, hkw.out⟩
      | false =>
        go_wp2_with (at_builtin; refine wpList_push (by rfl) _ _ rfl rfl w.heap.size _ _ wr.heap.size i rfl rfl (ho.out.alloc _) (by go_simp) (HB.out) (by have := hkw.out.size; simp; omega) ?_)
        intro v' w3 hown' hgrow3
        have HO : Hid (OwnI w3 w.heap.size v' (acc ++ [i])) := hown'
        have HK3 : Hid (Kept (fun _ => False) w w3) := (hkw.out.then (Kept.alloc _ _ _)).trans hgrow3 (fun _ _ h => h) (fun i hi e => by have := ho.out.lt i e; omega)
        clear hgrow3 hown'
        go_wp2
        go_ret
        exact ⟨_, rfl, by rw [HR.out, HIN.out]; exact HO.out, HK3.out⟩

/-- With, of any list. -/
theorem rwith_any (w : World) (v : Value) (xs : List Int) (i : Int) (h : Ints w v xs) (hl : xs.length ≤ 10000) :
    Calls Tryd.prog 18 #[v, .int .i64 i] w fun e w' => ∃ u, e = .returned u ∧ OwnI w' w.heap.size u (withL xs i) ∧ Kept (fun _ => False) w w' := by
  unfold withL
  by_cases hc : i < 0 ∨ 4095 < i ∨ i ∈ xs
  · rw [if_pos hc]
    refine rwith_same w v xs i h hl ?_
    by_cases h0 : i < 0
    · exact Or.inl h0
    · by_cases h1 : 4095 < i
      · exact Or.inr (Or.inl ⟨by omega, h1⟩)
      · exact Or.inr (Or.inr ⟨by omega, by omega, (hc.resolve_left h0).resolve_left h1⟩)
  · rw [if_neg hc]
    exact rwith_new w v xs i h hl (by omega) (by omega) (fun hm => hc (Or.inr (Or.inr hm)))

set_option maxRecDepth 100000 in
set_option maxHeartbeats 1600000 in
theorem rof_any (w : World) (v : Value) (xs : List Int) (h : Ints w v xs) (hl : xs.length ≤ 5000) :
    Calls Tryd.prog 13 #[v] w fun e w' => ∃ u, e = .returned u ∧ OwnI w' w.heap.size u (ofL xs) ∧ Kept (fun _ => False) w w' := by
  obtain ⟨a, c, rfl⟩ := h.form
  have hcell : ∀ k, k < xs.length → ∃ g off, a = some ⟨g, off, none⟩ ∧ ∀ W, Kept (fun _ => False) w W → W.cell? ⟨g, off + k, none⟩ = some (.int .i64 (xs.getD k 0)) := by
    intro k hk
    rcases h with ⟨_, rfl⟩ | ⟨g, off, cap, e, _, _, h3, h4⟩
    · simp at hk
    · cases e
      exact ⟨g, off, rfl, fun W hkw => (hkw.cell (p := ⟨g, off + k, none⟩) h3 (fun h => h)).trans (h4 k hk)⟩
  have HC := Lib.hid hcell
  have HL := Lib.hid hl
  have hlb : xs.length ≤ 9223372036854775807 := by omega
  clear h hcell hl
  go_enter Tryd.func13, Tryd.ntmps13
  go_wp2_with fail
  go_loopw [3, 8] (fun ov iv wr => ∃ (k : Nat), k ≤ xs.length ∧ iv = .int .i64 k ∧ Hid (OwnI wr w.heap.size ov (ofL (xs.take k))) ∧ Hid (Kept (fun _ => False) w wr)) (fun _ iv _ => xs.length - (intOf iv).toNat)
  case atStart => exact ⟨0, Nat.zero_le _, rfl, OwnI.nil _ _, Kept.refl _ _⟩
  case round =>
    obtain ⟨k, hk, rfl, ho, hkw⟩ := hrel
    by_cases hlt : k < xs.length
    · have hlt' : (k : Int) < (xs.length : Int) := by omega
      obtain ⟨g, off, rfl, hck⟩ := HC.out k hlt
      obtain ⟨x, hx⟩ : ∃ x, x = xs.getD k 0 := ⟨_, rfl⟩
      have hstep := ofL_take xs k hlt
      rw [← hx] at hstep
      rw [← hx] at hck
      have HS := Lib.hid hstep
      have ck := hck wr hkw.out
      have HLN := Lib.hid (ofL_len (xs.take k))
      clear hx hstep hck
      generalize ofL (xs.take k) = acc at ho HS HLN
      go_wp2_with fail
      refine (rwith_any _ _ acc x ho.out.ints (by have := HLN.out; omega)).mono ?_
      rintro e w3 ⟨u, rfl, hu, k3⟩
      have HU : Hid (OwnI w3 w.heap.size u (ofL (xs.take (k + 1)))) := by
        show OwnI _ _ _ _
        rw [HS.out]
        exact ⟨Go.Joins.ownsRow_le hu.own hkw.out.size⟩
      have HK := Lib.hid (hkw.out.then k3)
      clear hu k3 ck
      go_wp2_with fail
      go_roundw
      case rel => exact ⟨k + 1, by omega, by go_num, HU, HK⟩
      case measure => simp [intOf]; omega
    · have hkx : k = xs.length := by omega
      have ho2 := ho.out
      rw [hkx, List.take_length] at ho2
      have HO := Lib.hid ho2
      have hnl : ¬ (k : Int) < (xs.length : Int) := by omega
      clear hkx ho ho2
      go_wp2_with fail
      go_ret
      exact ⟨_, rfl, HO.out, hkw.out⟩

theorem range_memS (c : Nat) (hc : c ≤ 4096) : memM (2 ^ c - 1) 4096 = (List.range c).map fun i : Nat => (i : Int) := memM_ones c hc

set_option maxRecDepth 100000 in
set_option maxHeartbeats 1600000 in
theorem rbelow_any (w : World) (n : Int) :
    Calls Tryd.prog 15 #[.int .i64 n] w fun e w' => ∃ u, e = .returned u ∧ OwnI w' w.heap.size u (memM (2 ^ clampN n - 1) 4096) ∧ Kept (fun _ => False) w w' := by
  obtain ⟨c, hc⟩ : ∃ c, c = clampN n := ⟨_, rfl⟩
  have hcl := clampN_le n
  rw [← hc] at hcl ⊢
  have hcn : ∀ k : Nat, k ≤ c → (k < c ∧ (k : Int) < n ∧ (k : Int) ≤ 4095) ∨ (k = c ∧ ¬ (k : Int) < n) ∨ (k = c ∧ (k : Int) < n ∧ ¬ (k : Int) ≤ 4095) := by
    intro k hk
    unfold clampN at hc
    by_cases h1 : n < 0
    · rw [if_pos h1] at hc; omega
    · rw [if_neg h1] at hc
      by_cases h2 : n ≤ 4096
      · rw [if_pos h2] at hc; omega
      · rw [if_neg h2] at hc; omega
  have HCN := Lib.hid hcn
  have HR := Lib.hid (range_memS c hcl)
  clear hc hcn
  go_enter Tryd.func15, Tryd.ntmps15
  go_wp2_with fail
  go_loopw [3, 4] (fun ov iv wr => ∃ (k : Nat), k ≤ c ∧ iv = .int .i64 k ∧ Hid (OwnI wr w.heap.size ov ((List.range k).map fun i : Nat => (i : Int))) ∧ Hid (Kept (fun _ => False) w wr)) (fun _ iv _ => c - (intOf iv).toNat)
  case atStart => exact ⟨0, Nat.zero_le _, rfl, OwnI.nil _ _, Kept.refl _ _⟩
  case round =>
    obtain ⟨k, hk, rfl, ho, hkw⟩ := hrel
    rcases HCN.out k hk with ⟨h1, h2, h3⟩ | ⟨h1, h2⟩ | ⟨h1, h2, h3⟩
    · obtain ⟨acc, hacc⟩ : ∃ acc, acc = (List.range k).map fun i : Nat => (i : Int) := ⟨_, rfl⟩
      have hal : acc.length = k := by rw [hacc]; simp
      have hst : ((List.range (k + 1)).map fun i : Nat => (i : Int)) = acc ++ [(k : Int)] := by rw [hacc, List.range_succ]; simp
      rw [← hacc] at ho
      have HST := Lib.hid hst; have HB : Hid (acc.length ≤ 900000) := by show _ ≤ _; omega
      clear hacc hst hal
      go_wp2_with (at_builtin; refine wpList_push (by rfl) _ _ rfl rfl w.heap.size _ _ wr.heap.size k rfl rfl (ho.out.alloc _) (by go_simp) (HB.out) (by have := hkw.out.size; simp; omega) ?_)
      intro v' w3 hown' hgrow3
      have HO : Hid (OwnI w3 w.heap.size v' ((List.range (k + 1)).map fun i : Nat => (i : Int))) := by
        show OwnI _ _ _ _
        rw [HST.out]
        exact hown'
      have HK3 : Hid (Kept (fun _ => False) w w3) := (hkw.out.then (Kept.alloc _ _ _)).trans hgrow3 (fun _ _ h => h) (fun i hi e => by have := ho.out.lt i e; omega)
      clear hgrow3 hown'
      go_wp2
      go_roundw
      case rel => exact ⟨k + 1, by omega, by go_num, HO, HK3⟩
      case measure => simp [intOf]; omega
    all_goals
      have ho2 := ho.out
      rw [h1, ← HR.out] at ho2
      have HO := Lib.hid ho2
      clear ho h1 ho2
      go_wp2_with fail
      go_ret
      exact ⟨_, rfl, HO.out, hkw.out⟩
end Go.Proofs.YteaagllpkcpedaaDoor
