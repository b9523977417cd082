/-
  Tokens: number (the token of the digits at the beginning).
-/
import Derived.Test.YthkjcgcfbodgbaaDoorTkC
import Derived.Lib.AtoiErrMem
namespace Go.Proofs.YthkjcgcfbodgbaaDoor
open Go.RowKit Go.Shelf
set_option linter.unusedSimpArgs false
set_option linter.unusedVariables false

/-- A token: its kind, its text, its value, its place. -/
def tokV (k : Nat) (t : ByteArray) (n i : Nat) : Value := .agg #[.int .u8 (k : Int), .string t, .int .i64 (n : Int), .int .i64 (i : Int)]
def noTok : Value := .agg #[.int .u8 0, .string ⟨#[]⟩, .int .i64 0, .int .i64 0]

theorem box4 {w w2 : World} {a b c d : Value} {T : TypeId} (k : Kept (fun _ => False) (w.alloc (.cells #[a, b, c, d] T)) w2) :
    w2.cell? ⟨w.heap.size, 0, none⟩ = some a ∧ w2.cell? ⟨w.heap.size, 1, none⟩ = some b ∧ w2.cell? ⟨w.heap.size, 2, none⟩ = some c ∧ w2.cell? ⟨w.heap.size, 3, none⟩ = some d ∧
    w2.frozen? ⟨w.heap.size, 0, none⟩ = false ∧ w2.frozen? ⟨w.heap.size, 1, none⟩ = false ∧ w2.frozen? ⟨w.heap.size, 2, none⟩ = false ∧ w2.frozen? ⟨w.heap.size, 3, none⟩ = false ∧ w.heap.size < w2.heap.size := by
  have hs := k.size
  simp at hs
  refine ⟨?_, ?_, ?_, ?_, ?_, ?_, ?_, ?_, by omega⟩
  · exact (k.cell (p := ⟨w.heap.size, 0, none⟩) (by simp) (fun h => h)).trans (by go_simp)
  · exact (k.cell (p := ⟨w.heap.size, 1, none⟩) (by simp) (fun h => h)).trans (by go_simp)
  · exact (k.cell (p := ⟨w.heap.size, 2, none⟩) (by simp) (fun h => h)).trans (by go_simp)
  · exact (k.cell (p := ⟨w.heap.size, 3, none⟩) (by simp) (fun h => h)).trans (by go_simp)
  · exact (k.frozen (p := ⟨w.heap.size, 0, none⟩) (by simp) (fun h => h)).trans (by go_simp)
  · exact (k.frozen (p := ⟨w.heap.size, 1, none⟩) (by simp) (fun h => h)).trans (by go_simp)
  · exact (k.frozen (p := ⟨w.heap.size, 2, none⟩) (by simp) (fun h => h)).trans (by go_simp)
  · exact (k.frozen (p := ⟨w.heap.size, 3, none⟩) (by simp) (fun h => h)).trans (by go_simp)
theorem keptBox (w : World) (g : Nat) (a b c d : Value) : Kept (fun k => k = g) w ((((w.setCell ⟨g, 0, none⟩ a).setCell ⟨g, 1, none⟩ b).setCell ⟨g, 2, none⟩ c).setCell ⟨g, 3, none⟩ d) :=
  (((Kept.setCell (fun k => k = g) w ⟨g, 0, none⟩ a rfl).trans (Kept.setCell (fun k => k = g) _ ⟨g, 1, none⟩ b rfl) (fun _ _ h => h) (fun _ _ h => h)).trans (Kept.setCell (fun k => k = g) _ ⟨g, 2, none⟩ c rfl) (fun _ _ h => h) (fun _ _ h => h)).trans (Kept.setCell (fun k => k = g) _ ⟨g, 3, none⟩ d rfl) (fun _ _ h => h) (fun _ _ h => h)

theorem valN_lt : ∀ (l : List Nat) (acc : Nat), (∀ c ∈ l, digB c = true) → l.foldl (fun n c => 10 * n + (c - 48)) acc < (acc + 1) * 10 ^ l.length
  | [], acc, _ => by simp
  | c :: t, acc, h => by
    have hc := h c (by simp)
    unfold digB at hc
    simp only [Bool.and_eq_true, decide_eq_true_iff] at hc
    have ih := valN_lt t (10 * acc + (c - 48)) (fun x hx => h x (List.mem_cons_of_mem _ hx))
    simp only [List.foldl_cons, List.length_cons, Nat.pow_succ]
    refine Nat.lt_of_lt_of_le ih ?_
    have : (10 * acc + (c - 48) + 1) ≤ (acc + 1) * 10 := by omega
    calc (10 * acc + (c - 48) + 1) * 10 ^ t.length ≤ ((acc + 1) * 10) * 10 ^ t.length := Nat.mul_le_mul_right _ this
      _ = (acc + 1) * (10 ^ t.length * 10) := by rw [Nat.mul_assoc, Nat.mul_comm 10]

theorem takeWhile_dig {l : List Nat} {f : Nat → Bool} : ∀ c ∈ l.take (l.takeWhile f).length, f c = true := by
  induction l with
  | nil => intro c hc; simp at hc
  | cons a t ih =>
    intro c hc
    cases ha : f a with
    | true =>
      simp only [List.takeWhile, ha, List.length_cons, List.take_succ_cons, List.mem_cons] at hc
      rcases hc with rfl | hc
      · exact ha
      · exact ih c hc
    | false => simp [List.takeWhile, ha] at hc

/-- Atoi of digits. -/
theorem atoi_any (x : ByteArray) (w : World) (h0 : 0 < x.size) (h6 : x.size ≤ 6) (hd : ∀ b ∈ x.data.toList, digB b.toNat = true) :
    Calls Tryd.prog 100 #[.string x] w fun e w' => e = .returned (.tuple #[.int .i64 (valN (strB x) : Nat), .nilIface]) ∧ Kept (fun _ => False) w w' := by
  have hl : x.data.toList.length = x.size := by simp
  have hat : Lib.atoi x.data.toList = some ((valN (strB x) : Nat) : Int) := by
    have hv := dec_val x.data.toList 0 hd
    have e : valN (strB x) = x.data.toList.foldl (fun n c => 10 * n + (c.toNat - 48)) 0 := by
      unfold valN strB
      rw [List.foldl_map]
    rw [e]
    cases hx : x.data.toList with
    | nil => rw [hx] at hl; simp at hl; omega
    | cons b r =>
      rw [hx] at hv hd
      have hb := hd b (by simp)
      unfold digB at hb
      simp only [Bool.and_eq_true, decide_eq_true_iff] at hb
      have n1 : (b == 45) = false := by
        rw [beq_eq_false_iff_ne]; intro e; rw [e] at hb; exact absurd hb.1 (by decide)
      have n2 : (b == 43) = false := by
        rw [beq_eq_false_iff_ne]; intro e; rw [e] at hb; exact absurd hb.1 (by decide)
      unfold Lib.atoi
      simp only [n1, n2, Bool.false_eq_true, if_false]
      unfold Lib.decNat
      simp only [List.isEmpty_cons, Bool.false_eq_true, if_false, hv, Option.map_some]
  refine (Any.strconv_Atoi (P := Tryd.prog) (ρ := laysAtoi_ren) laysAtoi x _ (by omega) hat w).mono ?_
  rintro e w' ⟨h1, t, rfl⟩
  exact ⟨h1, Kept.ofBelow _ (Lib.bytesWorld_below w _ t)⟩

set_option maxRecDepth 100000 in
set_option maxHeartbeats 3200000 in
theorem tnumber_any (s : ByteArray) (w : World) (hs : s.size ≤ 1000000) (h0 : 0 < s.size) (hd : digB (bat s 0) = true) :
    Calls Tryd.prog 81 #[.string s] w fun e w' =>
      e = .returned (if 6 < ((strB s).takeWhile digB).length ∨ (bat s 0 = 48 ∧ 1 < ((strB s).takeWhile digB).length) ∨ (((strB s).takeWhile digB).length < s.size ∧ inWordB (bat s ((strB s).takeWhile digB).length) = true) then noTok
        else tokV 2 (s.extract 0 ((strB s).takeWhile digB).length) (valN ((strB s).take ((strB s).takeWhile digB).length)) 0) ∧ Kept (fun _ => False) w w' := by
  have HRUN := Lib.hid (fun W => trun_digit s W hs)
  have hN1 : 0 < ((strB s).takeWhile digB).length := by
    have h1 : 0 < (strB s).length := by rw [strB_len]; exact h0
    cases hl : strB s with
    | nil => rw [hl] at h1; simp at h1
    | cons a t =>
      have : a = bat s 0 := by rw [← strB_at, hl]; rfl
      rw [← this] at hd
      simp [List.takeWhile, hd]
  have hNs : ((strB s).takeWhile digB).length ≤ s.size := by
    rw [← strB_len]
    exact (List.takeWhile_prefix _).length_le
  have hdig := takeWhile_dig (l := strB s) (f := digB)
  generalize ((strB s).takeWhile digB).length = N at HRUN hN1 hNs hdig ⊢
  have hxs : (s.extract 0 N).size = N := by rw [ByteArray.size_extract]; omega
  have hxb : strB (s.extract 0 N) = (strB s).take N := by
    unfold strB
    rw [extract_listT]
    simp [List.map_take]
  have HATO : Hid (N ≤ 6 → ∀ W, Calls Tryd.prog 100 #[.string (s.extract 0 N)] W fun e w' => e = .returned (.tuple #[.int .i64 (valN ((strB s).take N) : Nat), .nilIface]) ∧ Kept (fun _ => False) W w') := fun h6 W => by
    have := atoi_any (s.extract 0 N) W (by omega) (by omega) (fun b hb => by
      have hm : b.toNat ∈ strB (s.extract 0 N) := List.mem_map_of_mem hb
      rw [hxb] at hm
      exact hdig _ hm)
    rw [hxb] at this
    exact this
  generalize valN ((strB s).take N) = vv at HATO ⊢
  have HAT := Lib.hid (bat_at s)
  have e0 := HAT.out 0
  obtain ⟨b0, hb0⟩ : ∃ b, b = bat s 0 := ⟨_, rfl⟩
  rw [← hb0] at e0 ⊢
  have p0 : (0 : Int) < (s.size : Int) := by omega
  have lN0 : (0 : Int) ≤ (N : Int) := by omega
  have lN1 : (N : Int) ≤ (s.size : Int) := by omega
  have HK := Lib.hid (fun (c : Array Value) => Kept.alloc (fun _ => False) w (.cells c 31))
  clear hb0 hd hxs hxb hdig
  by_cases h6 : 6 < N
  · have h6i : (6 : Int) < (N : Int) := by omega
    rw [if_pos (Or.inl h6)]
    go_enter Tryd.func81, Tryd.ntmps81
    go_wp2_with fail
    refine (HRUN.out _).mono ?_
    rintro e w1 ⟨rfl, rfl⟩
    go_wp2_with fail
    exact bodyPost_ret (v := noTok) (by simp [results, Tryd.results81, go_sem, noTok]) rfl ⟨rfl, HK.out _⟩
  have h6i : ¬ (6 : Int) < (N : Int) := by omega
  have HATO := Lib.hid (HATO.out (by omega))
  have hcs : (b0 = 48 ∧ 1 < N) ∨ (b0 = 48 ∧ ¬ 1 < N) ∨ b0 ≠ 48 := by omega
  have hpost : ¬ (b0 = 48 ∧ 1 < N) → (6 < N ∨ (b0 = 48 ∧ 1 < N) ∨ (N < s.size ∧ inWordB (bat s N) = true) ↔ (N < s.size ∧ inWordB (bat s N) = true)) := fun hn => by
    constructor
    · rintro (h | h | h)
      · exact absurd h h6
      · exact absurd h hn
      · exact h
    · exact fun h => Or.inr (Or.inr h)
  rcases hcs with ⟨rfl, h1⟩ | hcs
  · have h1i : (1 : Int) < (N : Int) := by omega
    rw [if_pos (Or.inr (Or.inl ⟨rfl, h1⟩))]
    clear hpost
    go_enter Tryd.func81, Tryd.ntmps81
    go_wp2_with fail
    refine (HRUN.out _).mono ?_
    rintro e w1 ⟨rfl, rfl⟩
    go_wp2_with fail
    exact bodyPost_ret (v := noTok) (by simp [results, Tryd.results81, go_sem, noTok]) rfl ⟨rfl, HK.out _⟩
  · simp only [hpost (by omega)]
    clear hpost
    have hcs2 : (b0 = 48 ∧ (((b0 : Nat) : Int) == 48) = true ∧ ¬ (1 : Int) < (N : Int)) ∨ (b0 ≠ 48 ∧ (((b0 : Nat) : Int) == 48) = false) := by
      rcases hcs with ⟨h1, h2⟩ | h1
      · exact Or.inl ⟨h1, by rw [h1]; rfl, by omega⟩
      · exact Or.inr ⟨h1, beq_eq_false_iff_ne.2 (by omega)⟩
    clear hcs
    by_cases hlt : N < s.size
    · have hlti : (N : Int) < (s.size : Int) := by omega
      have eN := HAT.out N
      have HIW := Lib.hid (fun W => tinWord_any (bat s N) W)
      generalize bat s N = cN at eN HIW ⊢
      cases hw : inWordB cN with
      | true =>
        rw [if_pos ⟨hlt, rfl⟩]
        rw [hw] at HIW
        clear hw
        rcases hcs2 with ⟨rfl, hb48, h1i⟩ | ⟨hne, hb48⟩
        all_goals
          go_enter Tryd.func81, Tryd.ntmps81
          go_wp2_with fail
          refine (HRUN.out _).mono ?_
          rintro e w1 ⟨rfl, rfl⟩
          go_wp2_with fail
          refine (HIW.out _).mono ?_
          rintro e w1 ⟨rfl, rfl⟩
          go_wp2_with fail
          exact bodyPost_ret (v := noTok) (by simp [results, Tryd.results81, go_sem, noTok]) rfl ⟨rfl, HK.out _⟩
      | false =>
        rw [if_neg (by rintro ⟨_, h⟩; cases h)]
        rw [hw] at HIW
        clear hw
        rcases hcs2 with ⟨rfl, hb48, h1i⟩ | ⟨hne, hb48⟩
        all_goals
          go_enter Tryd.func81, Tryd.ntmps81
          go_wp2_with fail
          refine (HRUN.out _).mono ?_
          rintro e w1 ⟨rfl, rfl⟩
          go_wp2_with fail
          refine (HIW.out _).mono ?_
          rintro e w1 ⟨rfl, rfl⟩
          go_wp2_with fail
          refine (HATO.out _).mono ?_
          rintro e w2 ⟨rfl, k2⟩
          obtain ⟨c0, c1, c2, c3, f0, f1, f2, f3, hl2⟩ := box4 k2
          have KX := Lib.hid (((HK.out _).then k2).trans (keptBox w2 w.heap.size (.int .u8 2) (.string (s.extract 0 N)) (.int .i64 (vv : Int)) (.int .i64 0)) (T := fun _ => False) (fun _ _ h => h) (fun i hi e => by have e : i = w.heap.size := e; omega))
          clear k2
          go_wp2_with fail
          exact bodyPost_ret (v := tokV 2 (s.extract 0 N) vv 0) (by simp [results, Tryd.results81, go_sem, tokV, c0, c1, c2, c3]) rfl ⟨rfl, KX.out⟩
    · have hlti : ¬ (N : Int) < (s.size : Int) := by omega
      rw [if_neg (by rintro ⟨h, _⟩; exact hlt h)]
      rcases hcs2 with ⟨rfl, hb48, h1i⟩ | ⟨hne, hb48⟩
      all_goals
        go_enter Tryd.func81, Tryd.ntmps81
        go_wp2_with fail
        refine (HRUN.out _).mono ?_
        rintro e w1 ⟨rfl, rfl⟩
        go_wp2_with fail
        refine (HATO.out _).mono ?_
        rintro e w2 ⟨rfl, k2⟩
        obtain ⟨c0, c1, c2, c3, f0, f1, f2, f3, hl2⟩ := box4 k2
        have KX := Lib.hid (((HK.out _).then k2).trans (keptBox w2 w.heap.size (.int .u8 2) (.string (s.extract 0 N)) (.int .i64 (vv : Int)) (.int .i64 0)) (T := fun _ => False) (fun _ _ h => h) (fun i hi e => by have e : i = w.heap.size := e; omega))
        clear k2
        go_wp2_with fail
        exact bodyPost_ret (v := tokV 2 (s.extract 0 N) vv 0) (by simp [results, Tryd.results81, go_sem, tokV, c0, c1, c2, c3]) rfl ⟨rfl, KX.out⟩
end Go.Proofs.YthkjcgcfbodgbaaDoor
