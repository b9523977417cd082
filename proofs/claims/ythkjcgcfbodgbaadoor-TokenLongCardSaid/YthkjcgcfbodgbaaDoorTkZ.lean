/-
  Tokens: readers: Name of both sides.
-/
import Derived.Test.YthkjcgcfbodgbaaDoorTkY
import Derived.Test.YthkjcgcfbodgbaaDoorNamU
import Derived.Test.YthkjcgcfbodgbaaDoorTkNr
import Derived.Deep.RegionHeld3
namespace Go.Proofs.YthkjcgcfbodgbaaDoor
open Go.RowKit Go.Shelf
set_option linter.unusedSimpArgs false
set_option linter.unusedVariables false

def nameT (l : List Tok) (r : RS) : RS × ByteArray := if (peekS l r).k ≠ 1 ∨ memS (peekS l r).t kwdL = true then (failS l r 8, ⟨#[]⟩) else if validS (peekS l r).t = true then (nextS l r, (peekS l r).t) else (failS l r 9, ⟨#[]⟩)

theorem keywords_ex (w : World) : Calls Tryd.prog 26 #[] w fun e w' => ∃ g, e = .returned (.slice (some ⟨g, 0, none⟩) 20 20) ∧ Strs w' (.slice (some ⟨g, 0, none⟩) 20 20) kwdL ∧ Kept (fun _ => False) w w' :=
  (keywords_any w).mono fun e w' ⟨h1, h2, h3⟩ => ⟨_, h1, h2, h3⟩

set_option maxRecDepth 100000 in
theorem rkeyword_any (s : ByteArray) (w : World) : Calls Tryd.prog 95 #[.string s] w fun e w' => e = .returned (.bool (memS s kwdL)) ∧ Kept (fun _ => False) w w' := by
  obtain ⟨V, hV⟩ : ∃ V, V = memS s kwdL := ⟨_, rfl⟩
  rw [← hV]
  have HV := Lib.hid hV
  have HKL : Hid (kwdL.length = 20) := by show _ = _; rfl
  clear hV
  go_enter Tryd.func95, Tryd.ntmps95
  go_wp2_with fail
  refine (rkeywords_any _).mono ?_
  rintro e w1 ⟨rfl, hs, k1⟩
  have HS := Lib.hid hs; have K1 := Lib.hid k1
  clear hs k1
  go_wp2_with fail
  go_loop [7] (fun iv => ∃ k : Nat, k ≤ 20 ∧ iv = .int .i64 k ∧ Hid (∀ j, j < k → (s.toList == (kwdL.getD j ⟨#[]⟩).toList) = false)) (fun iv => 20 - (intOf iv).toNat)
  case atStart => exact ⟨0, by omega, rfl, fun j hj => by omega⟩
  case round =>
    obtain ⟨k, hk, rfl, hno⟩ := hrel
    have l0 : (0 : Int) ≤ (k : Int) := by omega
    by_cases hlt : k < 20
    · have l1 : (k : Int) < 20 := by omega
      obtain ⟨g, off, hg, _, hcell⟩ := HS.out.at (k := k) (by rw [HKL.out]; exact hlt)
      cases hg
      rw [Nat.zero_add] at hcell
      have hmem : kwdL.getD k ⟨#[]⟩ ∈ kwdL := by
        have : k < kwdL.length := by rw [HKL.out]; exact hlt
        simp [List.getD, this]
      obtain ⟨x, hx⟩ : ∃ x, x = kwdL.getD k ⟨#[]⟩ := ⟨_, rfl⟩
      rw [← hx] at hcell hmem
      have HX := Lib.hid hx
      clear hx
      cases hb : (s.toList == x.toList) with
      | true =>
        have hVt : V = true := by
          rw [HV.out]
          unfold memS
          rw [List.any_eq_true]
          exact ⟨x, hmem, hb⟩
        clear hmem hno HV
        subst hVt
        go_wp2_with fail
        go_ret
        exact ⟨rfl, K1.out⟩
      | false =>
        have HN : Hid (∀ j, j < k + 1 → (s.toList == (kwdL.getD j ⟨#[]⟩).toList) = false) := fun j hj => by
          by_cases e : j < k
          · exact hno.out j e
          · obtain rfl : j = k := by omega
            rw [← HX.out]; exact hb
        clear hmem hno
        go_wp2_with fail
        go_round
        case rel => exact ⟨k + 1, by omega, by go_num, HN⟩
        case measure => simp [intOf]; omega
    · obtain rfl : k = 20 := by omega
      have hVf : V = false := by
        rw [HV.out]
        unfold memS
        rw [List.any_eq_false]
        intro x hx
        obtain ⟨j, hj, rfl⟩ := List.getElem_of_mem hx
        have := hno.out j (by rw [HKL.out] at hj; exact hj)
        simp only [List.getD, List.getElem?_eq_getElem hj, Option.getD_some] at this
        rw [this]; decide
      clear hno HV
      subst hVf
      go_wp2_with fail
      go_ret
      exact ⟨rfl, K1.out⟩

set_option maxRecDepth 100000 in
set_option maxHeartbeats 3200000 in
theorem RdP.name {w : World} {g : Nat} {lv : Value} {l : List Tok} {r : RS} (h : RdP w g lv l r) :
    Calls Tryd.prog 28 #[.pointer (some ⟨g, 0, none⟩)] w fun e w' => e = .returned (.string (nameT l r).2) ∧ RdP w' g lv l (nameT l r).1 ∧ Kept (fun k => k = g) w w' := by
  have HP := Lib.hid h.peek
  have HX := Lib.hid h
  have HFX : Hid (∀ (w2 : World) (e : Nat), Kept (fun _ => False) w w2 → Calls Tryd.prog 32 #[.pointer (some ⟨g, 0, none⟩), .int .i64 (e : Int)] w2 fun x w' => x = .returned (.tuple #[]) ∧ RdP w' g lv l (failS l r e) ∧ Kept (fun k => k = g) w w') := fun w2 e k2 =>
    ((HX.out.stay k2).fail e).mono fun x w' ⟨h1, h2, h3⟩ => ⟨h1, h2, k2.trans h3 (fun _ _ h => h.elim) (fun _ _ h => h)⟩
  have HNX : Hid (∀ (w2 : World), Kept (fun _ => False) w w2 → Calls Tryd.prog 34 #[.pointer (some ⟨g, 0, none⟩)] w2 fun x w' => x = .returned (tkV .u8 (peekS l r)) ∧ RdP w' g lv l (nextS l r) ∧ Kept (fun k => k = g) w w') := fun w2 k2 =>
    ((HX.out.stay k2).next).mono fun x w' ⟨h1, h2, h3⟩ => ⟨h1, h2, k2.trans h3 (fun _ _ h => h.elim) (fun _ _ h => h)⟩
  unfold nameT
  obtain ⟨nx, er, of⟩ := r
  have hpe : er ≠ 0 → peekS l ⟨nx, er, of⟩ = tok0 := fun e => peekS_err e
  have hfe : er ≠ 0 → failS l ⟨nx, er, of⟩ 8 = ⟨nx, er, of⟩ := fun e => failS_no (Or.inl e)
  have HST : Hid (∀ (w2 : World), Kept (fun _ => False) w w2 → RdP w2 g lv l ⟨nx, er, of⟩ ∧ Kept (fun k => k = g) w w2) := fun w2 k2 => ⟨HX.out.stay k2, k2.mono (fun _ _ h => h.elim)⟩
  have hrd : Hid (∀ (w2 : World), Kept (fun _ => False) w w2 → w2.cell? ⟨g, 2, none⟩ = some (.int .i64 (er : Int)) ∧ g < w2.heap.size) := fun w2 k2 => ⟨(HX.out.stay k2).c2, (HX.out.stay k2).lt⟩
  generalize peekS l ⟨nx, er, of⟩ = p at HP HNX hpe ⊢
  generalize failS l ⟨nx, er, of⟩ = fst9 at HFX hfe ⊢
  generalize nextS l ⟨nx, er, of⟩ = NS at HNX ⊢
  obtain ⟨k, t, n, i⟩ := p
  unfold tkV at HP HNX
  simp only at HP HNX ⊢
  clear h HX
  by_cases hk : k = 1
  · subst hk
    cases hm : memS t kwdL with
    | true =>
      rw [if_pos (Or.inr rfl)]
      clear hpe hfe
      go_enter Tryd.func28, Tryd.ntmps28
      go_wp2_with fail
      refine HP.out.mono ?_
      rintro e w2 ⟨rfl, k2⟩
      have KA := Lib.hid (k2.then (Kept.alloc (fun _ => False) w2 (.cells #[.int .u8 1, .string t, .int .i64 n, .int .i64 i] 31)))
      have b0 : (w2.alloc (.cells #[.int .u8 1, .string t, .int .i64 n, .int .i64 i] 31)).cell? ⟨w2.heap.size, 0, none⟩ = some (.int .u8 1) := by go_simp
      have b1 : (w2.alloc (.cells #[.int .u8 1, .string t, .int .i64 n, .int .i64 i] 31)).cell? ⟨w2.heap.size, 1, none⟩ = some (.string t) := by go_simp
      have bl : w2.heap.size < (w2.alloc (.cells #[.int .u8 1, .string t, .int .i64 n, .int .i64 i] 31)).heap.size := by simp
      have HC := Lib.hid (fun (W : World) (q : Kept (fun _ => False) (w2.alloc (.cells #[.int .u8 1, .string t, .int .i64 n, .int .i64 i] 31)) W) => (show W.cell? ⟨w2.heap.size, 0, none⟩ = some (.int .u8 1) ∧ W.cell? ⟨w2.heap.size, 1, none⟩ = some (.string t) from ⟨(q.cell (p := ⟨w2.heap.size, 0, none⟩) bl (fun h => h)).trans b0, (q.cell (p := ⟨w2.heap.size, 1, none⟩) bl (fun h => h)).trans b1⟩))
      clear k2
      go_wp2_with fail
      generalize w2.alloc (.cells #[.int .u8 1, .string t, .int .i64 n, .int .i64 i] 31) = w5 at HC KA b0 b1 bl ⊢
      generalize w2.heap.size = bx at *
      have D5 := Lib.hid ((Kept.refl (fun _ => False) w5).drew)
      go_region_held3 (fun w' => w'.cell? ⟨bx, 0, none⟩ = some (.int .u8 1) ∧ w'.cell? ⟨bx, 1, none⟩ = some (.string t))
        (first | exact HC.out _ D6.out | exact HC.out _ D5.out)
        ((first | (go_at_call 26; (with_reducible refine (keywords_ex _).mono ?_); rintro e w6 ⟨kg, rfl, hs6, k6⟩; have HS6 := Lib.hid hs6; have D6 := Lib.hid (D5.out.then k6); clear hs6 k6) | (go_at_call 25; (with_reducible refine (contains_any _ kwdL t _ HS6.out).mono ?_); rintro e w7 ⟨rfl, rfl⟩)))
      all_goals
        have KB := Lib.hid (KA.out.then D6.out)
        have HF := Lib.hid (HFX.out _ 8 KB.out)
        clear D5 D6 HFX HNX HST hrd HS6 HC
        go_wp2_with fail
        refine HF.out.mono ?_
        rintro e w9 ⟨rfl, h9, k9⟩
        have H9 := Lib.hid h9; have K9 := Lib.hid k9
        clear h9 k9
        go_wp2_with fail
        go_ret
        exact ⟨rfl, H9.out, K9.out⟩
    | false =>
      rw [if_neg (by simp)]
      cases hva : validS t with
      | true =>
        rw [if_pos rfl]
        clear hpe hfe
        go_enter Tryd.func28, Tryd.ntmps28
        go_wp2_with fail
        refine HP.out.mono ?_
        rintro e w2 ⟨rfl, k2⟩
        have KA := Lib.hid (k2.then (Kept.alloc (fun _ => False) w2 (.cells #[.int .u8 1, .string t, .int .i64 n, .int .i64 i] 31)))
        have b0 : (w2.alloc (.cells #[.int .u8 1, .string t, .int .i64 n, .int .i64 i] 31)).cell? ⟨w2.heap.size, 0, none⟩ = some (.int .u8 1) := by go_simp
        have b1 : (w2.alloc (.cells #[.int .u8 1, .string t, .int .i64 n, .int .i64 i] 31)).cell? ⟨w2.heap.size, 1, none⟩ = some (.string t) := by go_simp
        have bl : w2.heap.size < (w2.alloc (.cells #[.int .u8 1, .string t, .int .i64 n, .int .i64 i] 31)).heap.size := by simp
        have HC := Lib.hid (fun (W : World) (q : Kept (fun _ => False) (w2.alloc (.cells #[.int .u8 1, .string t, .int .i64 n, .int .i64 i] 31)) W) => (show W.cell? ⟨w2.heap.size, 0, none⟩ = some (.int .u8 1) ∧ W.cell? ⟨w2.heap.size, 1, none⟩ = some (.string t) from ⟨(q.cell (p := ⟨w2.heap.size, 0, none⟩) bl (fun h => h)).trans b0, (q.cell (p := ⟨w2.heap.size, 1, none⟩) bl (fun h => h)).trans b1⟩))
        clear k2
        go_wp2_with fail
        generalize w2.alloc (.cells #[.int .u8 1, .string t, .int .i64 n, .int .i64 i] 31) = w5 at HC KA b0 b1 bl ⊢
        generalize w2.heap.size = bx at *
        have D5 := Lib.hid ((Kept.refl (fun _ => False) w5).drew)
        go_region_held3 (fun w' => w'.cell? ⟨bx, 0, none⟩ = some (.int .u8 1) ∧ w'.cell? ⟨bx, 1, none⟩ = some (.string t))
          (first | exact HC.out _ D6.out | exact HC.out _ D5.out)
          ((first | (go_at_call 26; (with_reducible refine (keywords_ex _).mono ?_); rintro e w6 ⟨kg, rfl, hs6, k6⟩; have HS6 := Lib.hid hs6; have D6 := Lib.hid (D5.out.then k6); clear hs6 k6) | (go_at_call 25; (with_reducible refine (contains_any _ kwdL t _ HS6.out).mono ?_); rintro e w7 ⟨rfl, rfl⟩)))
        all_goals
          have KB := Lib.hid (KA.out.then D6.out)
          obtain ⟨b0, b1⟩ := HC.out _ D6.out
          clear D5 D6 HFX HST hrd HS6 HC
          go_wp2_with fail
          refine (valid_any t _).mono ?_
          rintro e w8 ⟨rfl, k8⟩
          have hfd : ∀ W : World, (Instr.field 31 (.agg #[.int .u8 1, .string t, .int .i64 n, .int .i64 i]) 1).run Tryd.prog W = .ok (.string t) W := fun _ => by kernel_rfl
          have HF := Lib.hid (HNX.out _ (KB.out.then k8))
          rw [hva]
          clear k8 HNX KB b0 b1
          go_wp2_with fail
          refine HF.out.mono ?_
          rintro e w9 ⟨rfl, h9, k9⟩
          have H9 := Lib.hid h9; have K9 := Lib.hid k9
          clear h9 k9
          go_wp2_with fail
          go_ret
          exact ⟨rfl, H9.out, K9.out⟩
      | false =>
        rw [if_neg (by decide)]
        clear hpe hfe
        go_enter Tryd.func28, Tryd.ntmps28
        go_wp2_with fail
        refine HP.out.mono ?_
        rintro e w2 ⟨rfl, k2⟩
        have KA := Lib.hid (k2.then (Kept.alloc (fun _ => False) w2 (.cells #[.int .u8 1, .string t, .int .i64 n, .int .i64 i] 31)))
        have b0 : (w2.alloc (.cells #[.int .u8 1, .string t, .int .i64 n, .int .i64 i] 31)).cell? ⟨w2.heap.size, 0, none⟩ = some (.int .u8 1) := by go_simp
        have b1 : (w2.alloc (.cells #[.int .u8 1, .string t, .int .i64 n, .int .i64 i] 31)).cell? ⟨w2.heap.size, 1, none⟩ = some (.string t) := by go_simp
        have bl : w2.heap.size < (w2.alloc (.cells #[.int .u8 1, .string t, .int .i64 n, .int .i64 i] 31)).heap.size := by simp
        have HC := Lib.hid (fun (W : World) (q : Kept (fun _ => False) (w2.alloc (.cells #[.int .u8 1, .string t, .int .i64 n, .int .i64 i] 31)) W) => (show W.cell? ⟨w2.heap.size, 0, none⟩ = some (.int .u8 1) ∧ W.cell? ⟨w2.heap.size, 1, none⟩ = some (.string t) from ⟨(q.cell (p := ⟨w2.heap.size, 0, none⟩) bl (fun h => h)).trans b0, (q.cell (p := ⟨w2.heap.size, 1, none⟩) bl (fun h => h)).trans b1⟩))
        clear k2
        go_wp2_with fail
        generalize w2.alloc (.cells #[.int .u8 1, .string t, .int .i64 n, .int .i64 i] 31) = w5 at HC KA b0 b1 bl ⊢
        generalize w2.heap.size = bx at *
        have D5 := Lib.hid ((Kept.refl (fun _ => False) w5).drew)
        go_region_held3 (fun w' => w'.cell? ⟨bx, 0, none⟩ = some (.int .u8 1) ∧ w'.cell? ⟨bx, 1, none⟩ = some (.string t))
          (first | exact HC.out _ D6.out | exact HC.out _ D5.out)
          ((first | (go_at_call 26; (with_reducible refine (keywords_ex _).mono ?_); rintro e w6 ⟨kg, rfl, hs6, k6⟩; have HS6 := Lib.hid hs6; have D6 := Lib.hid (D5.out.then k6); clear hs6 k6) | (go_at_call 25; (with_reducible refine (contains_any _ kwdL t _ HS6.out).mono ?_); rintro e w7 ⟨rfl, rfl⟩)))
        all_goals
          have KB := Lib.hid (KA.out.then D6.out)
          obtain ⟨b0, b1⟩ := HC.out _ D6.out
          clear D5 D6 HNX HST hrd HS6 HC
          go_wp2_with fail
          refine (valid_any t _).mono ?_
          rintro e w8 ⟨rfl, k8⟩
          have HF := Lib.hid (HFX.out _ 9 (KB.out.then k8))
          rw [hva]
          clear k8 HFX KB b0 b1
          go_wp2_with fail
          refine HF.out.mono ?_
          rintro e w9 ⟨rfl, h9, k9⟩
          have H9 := Lib.hid h9; have K9 := Lib.hid k9
          clear h9 k9
          go_wp2_with fail
          go_ret
          exact ⟨rfl, H9.out, K9.out⟩
  · rw [if_pos (Or.inl hk)]
    have hb : ((k : Int) == 1) = false := beq_eq_false_iff_ne.2 (by omega)
    have hb2 : ((k : Int) != 1) = true := by simp only [bne, hb, Bool.not_false]
    clear hpe hfe
    go_enter Tryd.func28, Tryd.ntmps28
    go_wp2_with fail
    refine HP.out.mono ?_
    rintro e w2 ⟨rfl, k2⟩
    have KA := Lib.hid (k2.then (Kept.alloc (fun _ => False) w2 (.cells #[.int .u8 (k : Int), .string t, .int .i64 n, .int .i64 i] 31)))
    have b0 : (w2.alloc (.cells #[.int .u8 (k : Int), .string t, .int .i64 n, .int .i64 i] 31)).cell? ⟨w2.heap.size, 0, none⟩ = some (.int .u8 (k : Int)) := by go_simp
    have b1 : (w2.alloc (.cells #[.int .u8 (k : Int), .string t, .int .i64 n, .int .i64 i] 31)).cell? ⟨w2.heap.size, 1, none⟩ = some (.string t) := by go_simp
    have bl : w2.heap.size < (w2.alloc (.cells #[.int .u8 (k : Int), .string t, .int .i64 n, .int .i64 i] 31)).heap.size := by simp
    have HC := Lib.hid (fun (W : World) (q : Kept (fun _ => False) (w2.alloc (.cells #[.int .u8 (k : Int), .string t, .int .i64 n, .int .i64 i] 31)) W) => (show W.cell? ⟨w2.heap.size, 0, none⟩ = some (.int .u8 (k : Int)) ∧ W.cell? ⟨w2.heap.size, 1, none⟩ = some (.string t) from ⟨(q.cell (p := ⟨w2.heap.size, 0, none⟩) bl (fun h => h)).trans b0, (q.cell (p := ⟨w2.heap.size, 1, none⟩) bl (fun h => h)).trans b1⟩))
    clear k2
    go_wp2_with fail
    generalize w2.alloc (.cells #[.int .u8 (k : Int), .string t, .int .i64 n, .int .i64 i] 31) = w5 at HC KA b0 b1 bl ⊢
    generalize w2.heap.size = bx at *
    go_quiet (fail)
    have HF := Lib.hid (HFX.out _ 8 (KA.out.drewN nq))
    clear HFX HNX HST hrd HC KA b0 b1 bl
    generalize w5.drewN nq = wd at *
    go_wp2_with fail
    refine HF.out.mono ?_
    rintro e w9 ⟨rfl, h9, k9⟩
    have H9 := Lib.hid h9; have K9 := Lib.hid k9
    clear h9 k9
    go_wp2_with fail
    go_ret
    exact ⟨rfl, H9.out, K9.out⟩

set_option maxRecDepth 100000 in
set_option maxHeartbeats 3200000 in
theorem RdR.name {w : World} {g : Nat} {lv : Value} {l : List Tok} {r : RS} (h : RdR w g lv l r) :
    Calls Tryd.prog 68 #[.pointer (some ⟨g, 0, none⟩)] w fun e w' => e = .returned (.string (nameT l r).2) ∧ RdR w' g lv l (nameT l r).1 ∧ Kept (fun k => k = g) w w' := by
  have HP := Lib.hid h.peek
  have HX := Lib.hid h
  have HFX : Hid (∀ (w2 : World) (e : Nat), Kept (fun _ => False) w w2 → Calls Tryd.prog 70 #[.pointer (some ⟨g, 0, none⟩), .int .i64 (e : Int)] w2 fun x w' => x = .returned (.tuple #[]) ∧ RdR w' g lv l (failS l r e) ∧ Kept (fun k => k = g) w w') := fun w2 e k2 =>
    ((HX.out.stay k2).fail e).mono fun x w' ⟨h1, h2, h3⟩ => ⟨h1, h2, k2.trans h3 (fun _ _ h => h.elim) (fun _ _ h => h)⟩
  have HNX : Hid (∀ (w2 : World), Kept (fun _ => False) w w2 → Calls Tryd.prog 64 #[.pointer (some ⟨g, 0, none⟩)] w2 fun x w' => x = .returned (tkV .i64 (peekS l r)) ∧ RdR w' g lv l (nextS l r) ∧ Kept (fun k => k = g) w w') := fun w2 k2 =>
    ((HX.out.stay k2).next).mono fun x w' ⟨h1, h2, h3⟩ => ⟨h1, h2, k2.trans h3 (fun _ _ h => h.elim) (fun _ _ h => h)⟩
  unfold nameT
  obtain ⟨nx, er, of⟩ := r
  have hpe : er ≠ 0 → peekS l ⟨nx, er, of⟩ = tok0 := fun e => peekS_err e
  have hfe : er ≠ 0 → failS l ⟨nx, er, of⟩ 8 = ⟨nx, er, of⟩ := fun e => failS_no (Or.inl e)
  have HST : Hid (∀ (w2 : World), Kept (fun _ => False) w w2 → RdR w2 g lv l ⟨nx, er, of⟩ ∧ Kept (fun k => k = g) w w2) := fun w2 k2 => ⟨HX.out.stay k2, k2.mono (fun _ _ h => h.elim)⟩
  have hrd : Hid (∀ (w2 : World), Kept (fun _ => False) w w2 → w2.cell? ⟨g, 3, none⟩ = some (.int .i64 (er : Int)) ∧ g < w2.heap.size) := fun w2 k2 => ⟨(HX.out.stay k2).c2, (HX.out.stay k2).lt⟩
  generalize peekS l ⟨nx, er, of⟩ = p at HP HNX hpe ⊢
  generalize failS l ⟨nx, er, of⟩ = fst9 at HFX hfe ⊢
  generalize nextS l ⟨nx, er, of⟩ = NS at HNX ⊢
  obtain ⟨k, t, n, i⟩ := p
  unfold tkV at HP HNX
  simp only at HP HNX ⊢
  clear h HX
  by_cases he : er = 0
  · subst he
    by_cases hk : k = 1
    · subst hk
      cases hm : memS t kwdL with
      | true =>
        rw [if_pos (Or.inr rfl)]
        clear hpe hfe
        go_enter Tryd.func68, Tryd.ntmps68
        go_wp2_with fail
        refine HP.out.mono ?_
        rintro e w2 ⟨rfl, k2⟩
        have KA := Lib.hid (k2.then (Kept.alloc (fun _ => False) w2 (.cells #[.int .i64 1, .string t, .int .i64 n, .int .i64 i] 44)))
        obtain ⟨d0, d1⟩ := hrd.out w2 k2
        have d2 : ¬ g = w2.heap.size := by omega
        clear k2
        go_wp2_with fail
        refine (rkeyword_any t _).mono ?_
        rintro e w3 ⟨rfl, k3⟩
        have b1 := (k3.cell (p := ⟨w2.heap.size, 1, none⟩) (by simp) (fun h => h)).trans (by go_simp : (w2.alloc (.cells #[.int .i64 1, .string t, .int .i64 n, .int .i64 i] 44)).cell? ⟨w2.heap.size, 1, none⟩ = some (.string t))
        have KB := Lib.hid (KA.out.then k3)
        clear k3 d0 d1 d2
        rw [hm]
        have HF := Lib.hid (HFX.out _ 8 KB.out)
        clear HFX HNX HST hrd b1 KA KB
        go_wp2_with fail
        refine HF.out.mono ?_
        rintro e w9 ⟨rfl, h9, k9⟩
        have H9 := Lib.hid h9; have K9 := Lib.hid k9
        clear h9 k9
        go_wp2_with fail
        go_ret
        exact ⟨rfl, H9.out, K9.out⟩
      | false =>
        rw [if_neg (by simp)]
        cases hva : validS t with
        | true =>
          rw [if_pos rfl]
          clear hpe hfe
          go_enter Tryd.func68, Tryd.ntmps68
          go_wp2_with fail
          refine HP.out.mono ?_
          rintro e w2 ⟨rfl, k2⟩
          have KA := Lib.hid (k2.then (Kept.alloc (fun _ => False) w2 (.cells #[.int .i64 1, .string t, .int .i64 n, .int .i64 i] 44)))
          obtain ⟨d0, d1⟩ := hrd.out w2 k2
          have d2 : ¬ g = w2.heap.size := by omega
          clear k2
          go_wp2_with fail
          refine (rkeyword_any t _).mono ?_
          rintro e w3 ⟨rfl, k3⟩
          have b1 := (k3.cell (p := ⟨w2.heap.size, 1, none⟩) (by simp) (fun h => h)).trans (by go_simp : (w2.alloc (.cells #[.int .i64 1, .string t, .int .i64 n, .int .i64 i] 44)).cell? ⟨w2.heap.size, 1, none⟩ = some (.string t))
          have KB := Lib.hid (KA.out.then k3)
          clear k3 d0 d1 d2
          rw [hm]
          go_wp2_with fail
          refine (rvalid_any t _).mono ?_
          rintro e w8 ⟨rfl, k8⟩
          have hfd : ∀ W : World, (Instr.field 44 (.agg #[.int .i64 1, .string t, .int .i64 n, .int .i64 i]) 1).run Tryd.prog W = .ok (.string t) W := fun _ => by kernel_rfl
          have HF := Lib.hid (HNX.out _ (KB.out.then k8))
          rw [hva]
          clear k8 HFX HNX HST hrd b1 KA KB
          go_wp2_with fail
          refine HF.out.mono ?_
          rintro e w9 ⟨rfl, h9, k9⟩
          have H9 := Lib.hid h9; have K9 := Lib.hid k9
          clear h9 k9
          go_wp2_with fail
          go_ret
          exact ⟨rfl, H9.out, K9.out⟩
        | false =>
          rw [if_neg (by decide)]
          clear hpe hfe
          go_enter Tryd.func68, Tryd.ntmps68
          go_wp2_with fail
          refine HP.out.mono ?_
          rintro e w2 ⟨rfl, k2⟩
          have KA := Lib.hid (k2.then (Kept.alloc (fun _ => False) w2 (.cells #[.int .i64 1, .string t, .int .i64 n, .int .i64 i] 44)))
          obtain ⟨d0, d1⟩ := hrd.out w2 k2
          have d2 : ¬ g = w2.heap.size := by omega
          clear k2
          go_wp2_with fail
          refine (rkeyword_any t _).mono ?_
          rintro e w3 ⟨rfl, k3⟩
          have b1 := (k3.cell (p := ⟨w2.heap.size, 1, none⟩) (by simp) (fun h => h)).trans (by go_simp : (w2.alloc (.cells #[.int .i64 1, .string t, .int .i64 n, .int .i64 i] 44)).cell? ⟨w2.heap.size, 1, none⟩ = some (.string t))
          have KB := Lib.hid (KA.out.then k3)
          clear k3 d0 d1 d2
          rw [hm]
          go_wp2_with fail
          refine (rvalid_any t _).mono ?_
          rintro e w8 ⟨rfl, k8⟩
          have HF := Lib.hid (HFX.out _ 9 (KB.out.then k8))
          rw [hva]
          clear k8 HFX HNX HST hrd b1 KA KB
          go_wp2_with fail
          refine HF.out.mono ?_
          rintro e w9 ⟨rfl, h9, k9⟩
          have H9 := Lib.hid h9; have K9 := Lib.hid k9
          clear h9 k9
          go_wp2_with fail
          go_ret
          exact ⟨rfl, H9.out, K9.out⟩
    · rw [if_pos (Or.inl hk)]
      have hb : ((k : Int) == 1) = false := beq_eq_false_iff_ne.2 (by omega)
      clear hpe hfe
      go_enter Tryd.func68, Tryd.ntmps68
      go_wp2_with fail
      refine HP.out.mono ?_
      rintro e w2 ⟨rfl, k2⟩
      have KA := Lib.hid (k2.then (Kept.alloc (fun _ => False) w2 (.cells #[.int .i64 (k : Int), .string t, .int .i64 n, .int .i64 i] 44)))
      obtain ⟨d0, d1⟩ := hrd.out w2 k2
      have d2 : ¬ g = w2.heap.size := by omega
      have HF := Lib.hid (HFX.out _ 8 KA.out)
      clear k2 HFX HNX HST hrd KA
      go_wp2_with fail
      refine HF.out.mono ?_
      rintro e w9 ⟨rfl, h9, k9⟩
      have H9 := Lib.hid h9; have K9 := Lib.hid k9
      clear h9 k9
      go_wp2_with fail
      go_ret
      exact ⟨rfl, H9.out, K9.out⟩
  · obtain rfl : k = 0 := congrArg Tok.k (hpe he)
    rw [if_pos (Or.inl (by decide)), hfe he]
    have hb : ((er : Int) == 0) = false := beq_eq_false_iff_ne.2 (by omega)
    clear hpe hfe
    go_enter Tryd.func68, Tryd.ntmps68
    go_wp2_with fail
    refine HP.out.mono ?_
    rintro e w2 ⟨rfl, k2⟩
    have KA := Lib.hid (k2.then (Kept.alloc (fun _ => False) w2 (.cells #[.int .i64 0, .string t, .int .i64 n, .int .i64 i] 44)))
    obtain ⟨d0, d1⟩ := hrd.out w2 k2
    have d2 : ¬ g = w2.heap.size := by omega
    have HF := Lib.hid (HST.out _ KA.out)
    clear k2 HFX HNX HST hrd KA
    go_wp2_with fail
    go_ret
    exact ⟨rfl, HF.out⟩
end Go.Proofs.YthkjcgcfbodgbaaDoor
