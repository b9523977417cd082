/-
  arbaclaw15.TokenBlanks returns true.
-/
import Derived.Test.YthkjcgcfbodgbaaDoorTkBk
import Derived.Test.YthkjcgcfbodgbaaDoorTkT
import Derived.Test.YthkjcgcfbodgbaaDoorTkU
import Derived.Test.YthkjcgcfbodgbaaDoorArgIn
import Derived.Test.YthkjcgcfbodgbaaDoorTkRe
import Derived.Deep.RegionWith
namespace Go.Proofs.YthkjcgcfbodgbaaDoor
open Go.RowKit Go.Shelf
set_option linter.unusedSimpArgs false
set_option linter.unusedVariables false

theorem scan_err_nilB {s : ByteArray} (h : (scanS s).2.2 ≠ 0) : (scanS s).1 = [] := by
  unfold scanS at h ⊢
  split
  · rfl
  · rename_i h8
    rw [if_neg h8] at h
    split
    · rfl
    · rename_i hq
      rw [hq] at h
      exact absurd rfl h
theorem body_small {t : ByteArray} {sep : Nat → List Nat} (h0 : (scanS t).2.2 = 0) (h4 : t.size ≤ 400) (hl : ∀ i, (sep i).length ≤ 15) : (bodyT sep (scanS t).1).length ≤ 6500 ∧ (scanS t).1.length ≤ 401 := by
  have h8 : ¬ 8000 < t.size := by omega
  have hn : (scanL t).2 = none := by
    cases hq : (scanL t).2 with
    | none => rfl
    | some i => rw [scanS_bad h8 hq] at h0; cases h0
  rw [scanS_ok h8 hn]
  simp only
  have hsk := skipT_le (strB t) 0 (Nat.zero_le _)
  have hsum := scan_sum (strB t) (t.size + 1) (skipT (strB t) 0) hsk.2
  change ((scanL t).1.map (·.2.2.1)).sum ≤ _ ∧ (scanL t).1.length ≤ _ at hsum
  rw [strB_len] at hsum
  generalize (scanL t).1 = ys at hsum ⊢
  have hlen := bodyT_len (ys.map (tokOf t) ++ [endTok t]) sep hl
  have hss : ((ys.map (tokOf t) ++ [endTok t]).map (fun x => x.t.size)).sum ≤ (ys.map (·.2.2.1)).sum := by
    rw [List.map_append, List.sum_append, List.map_map]
    have e : ([endTok t].map (fun x => x.t.size)).sum = 0 := rfl
    rw [e, Nat.add_zero]
    clear hsum hlen
    induction ys with
    | nil => simp
    | cons y u ih =>
      have e2 : (tokOf t y).t.size ≤ y.2.2.1 := by
        show (t.extract y.2.1 (y.2.1 + y.2.2.1)).size ≤ _
        rw [ByteArray.size_extract]; omega
      simp only [List.map_cons, List.sum_cons, Function.comp_apply] at ih ⊢
      omega
  simp only [List.length_append, List.length_map, List.length_cons, List.length_nil] at hlen ⊢
  omega
/-- What the loop has put together. -/
def outK (sep : Nat → List Nat) (l : List Tok) (k : Nat) : List Nat := ((List.range k).map (fun i => sep i ++ strB (l.getD i tok0).t)).flatten
theorem outK_succ (sep : Nat → List Nat) (l : List Tok) (k : Nat) : outK sep l (k + 1) = outK sep l k ++ (sep k ++ strB (l.getD k tok0).t) := by
  unfold outK
  rw [List.range_succ, List.map_append, List.flatten_append]
  simp
theorem outK_mono (sep : Nat → List Nat) (l : List Tok) (k : Nat) : ∀ d, (outK sep l k).length ≤ (outK sep l (k + d)).length
  | 0 => Nat.le_refl _
  | d + 1 => by
    have := outK_mono sep l k d
    rw [show k + (d + 1) = (k + d) + 1 by omega, outK_succ, List.length_append]
    omega
theorem outK_le (sep : Nat → List Nat) (l : List Tok) (k : Nat) (h : k ≤ l.length) : (outK sep l k).length ≤ (bodyT sep l).length := by
  have := outK_mono sep l k (l.length - k)
  rw [show k + (l.length - k) = l.length by omega] at this
  rwa [show outK sep l l.length = bodyT sep l from bodyT_range l sep] at this
theorem texts_zT (l : List Tok) : textsS (l.map zT) = textsS l := by
  induction l with
  | nil => rfl
  | cons x t ih =>
    unfold textsS at ih ⊢
    rw [List.map_cons, List.filter_cons, List.filter_cons]
    by_cases h : x.k = 0
    · have e : (zT x).k = 0 := h
      simp only [e, h, ne_eq, not_true_eq_false, decide_false, Bool.false_eq_true, if_false]
      exact ih
    · have e : (zT x).k ≠ 0 := h
      simp only [e, h, ne_eq, not_false_eq_true, decide_true, if_true, List.map_cons, ih]
      rfl
theorem strB_appendB (a b : ByteArray) : strB (a ++ b) = strB a ++ strB b := by
  unfold strB
  rw [ByteArray.data_append, Array.toList_append, List.map_append]
theorem reads_len {w : World} {a : Option Addr} {n c : Nat} {xs : List Nat} (h : Reads w (.slice a n c) xs) : n = xs.length := by
  rcases h with ⟨h, rfl⟩ | ⟨g, off, cap, h, _⟩
  · cases h; rfl
  · cases h; rfl
theorem reads_at {w : World} {a : Option Addr} {n c k : Nat} {xs : List Nat} (hp : Reads w (.slice a n c) xs) (hk : k < xs.length) :
    ∃ g off, a = some ⟨g, off, none⟩ ∧ w.cell? ⟨g, off + k, none⟩ = some (.int .u8 (xs.getD k 0 : Nat)) := by
  rcases hp with ⟨h, rfl⟩ | ⟨g, off, cap, h, h1, h2, _, h3⟩
  · simp at hk
  · cases h; exact ⟨g, off, rfl, h3 k hk⟩

set_option maxRecDepth 100000 in
set_option maxHeartbeats 6400000 in
theorem tblanks_law (s : ByteArray) (fa : Option Addr) (fn fc : Nat) (xs : List Nat) (w : World) (hS : Sym w) (hs : s.size ≤ maxLen) (hx : InBytes w (.slice fa fn fc) xs) :
    Calls Tryd.prog 3 #[.string s, .slice fa fn fc] w fun e w' => e = .returned (.bool true) ∧ Kept (fun _ => False) w w' := by
  have HS := Lib.hid hS
  have HAW := Lib.hid (awake15_any w hS)
  have HC := Lib.hid (fun W => cutk_any s W hs)
  have hcs := cutK_size s
  have hag := fun h => scan_again (t := cutK s) h hcs
  have hbs := fun h => body_small (t := cutK s) (sep := fun i => strB (sepB.getD (xs.getD i 0 % 5) ⟨#[]⟩)) h hcs (fun i => (sepB_sep _ (Nat.mod_lt _ (by decide))).2)
  have hot := fun O h => scan_other (t := cutK s) (O := O) (sep := fun i => strB (sepB.getD (xs.getD i 0 % 5) ⟨#[]⟩)) h hcs (fun i => (sepB_sep _ (Nat.mod_lt _ (by decide))).1) (fun i => (sepB_sep _ (Nat.mod_lt _ (by decide))).2)
  have her := fun h => scan_err_nilB (s := cutK s) h
  generalize cutK s = t at hcs HC hag her hbs hot
  have H1 := Lib.hid (fun W hW => tscan_any t W (by omega) hW)
  obtain ⟨R, hR⟩ : ∃ R, R = scanS t := ⟨_, rfl⟩
  simp only [← hR] at H1 hag her hbs hot
  obtain ⟨l, o, b⟩ := R
  simp only at H1 hag her hbs hot
  have hfl := reads_len hx.reads
  have HXR := Lib.hid hx.reads
  have HXB := Lib.hid hx.byte
  have HAG := Lib.hid hag; have HER := Lib.hid her; have HBS := Lib.hid hbs; have HOT := Lib.hid hot
  have HFL := Lib.hid hfl
  clear hR hS hs hag her hbs hot hx hfl
  go_enter Tryd.func3, Tryd.ntmps3
  go_wp2_with fail
  refine HAW.out.mono ?_
  rintro e w1 ⟨rfl, k1⟩
  have K1 := Lib.hid k1
  clear k1 HAW
  go_wp2_with fail
  refine (HC.out _).mono ?_
  rintro e w2 ⟨rfl, rfl⟩
  go_wp2_with fail
  refine (H1.out _ (HS.out.kept K1.out (fun h => h))).mono ?_
  rintro e w3 ⟨v3, rfl, o3, k3⟩
  have T3 := Lib.hid o3.toks
  have K3 := Lib.hid (K1.out.then k3)
  obtain ⟨la, lc, rfl, z1, z2⟩ := o3.form
  clear o3 k3
  by_cases hb0 : b = 0
  · subst hb0
    obtain ⟨g1, g2, g3⟩ := HAG.out rfl
    obtain ⟨hb6, hb4⟩ := HBS.out rfl
    have HO := Lib.hid (fun O => HOT.out O rfl)
    have HJL := Lib.hid g1
    clear g1 g2 g3 HAG HBS HOT HER
    obtain ⟨sep, hsep⟩ : ∃ sep : Nat → List Nat, sep = fun i => strB (sepB.getD (xs.getD i 0 % 5) ⟨#[]⟩) := ⟨_, rfl⟩
    rw [← hsep] at hb6
    simp only [← hsep] at HO
    have HSP : Hid (∀ i r, xs.getD i 0 % 5 = r → sep i = strB (sepB.getD r ⟨#[]⟩)) := fun i r h => by rw [hsep]; simp only [h]
    clear hsep
    have hle := Lib.hid (fun k (h : k ≤ l.length) => outK_le sep l k h)
    obtain ⟨N, hN⟩ : ∃ N, N = l.length := ⟨_, rfl⟩
    rw [← hN] at T3 z1 hb4 ⊢
    have HN := Lib.hid hN
    clear hN
    go_wp2_with fail
    go_loopw [8, 31] (fun sv iv wr => ∃ (k : Nat) (o : ByteArray), k ≤ N ∧ iv = .int .i64 k ∧ sv = .string o ∧ Hid (strB o = outK sep l k) ∧ Hid (Kept (fun _ => False) w3 wr)) (fun _ iv _ => N - (intOf iv).toNat)
    case atStart => exact ⟨0, ⟨#[]⟩, by omega, rfl, rfl, by show _ = _; rfl, Kept.refl _ _⟩
    case round =>
      obtain ⟨k, o, hk, rfl, rfl, ho, hkw⟩ := hrel
      have l0 : (0 : Int) ≤ (k : Int) := by omega
      have hos : o.size ≤ 6500 := by
        rw [← strB_len, ho.out]
        exact Nat.le_trans (hle.out k (by rw [← HN.out]; exact hk)) hb6
      by_cases hlt : k < N
      · have l1 : (k : Int) < (N : Int) := by omega
        obtain ⟨g, off, rfl, hgl, c0, c1, c2, c3⟩ := (T3.out.kept hkw.out (fun _ _ h => h)).at (k := k) (by rw [← HN.out]; exact hlt)
        have hos2 := hle.out (k + 1) (by rw [← HN.out]; omega)
        have hnext := outK_succ sep l k
        rw [hnext] at hos2
        rw [List.length_append, List.length_append, strB_len, ← ho.out, strB_len] at hos2
        obtain ⟨x, hx⟩ : ∃ x, x = l.getD k tok0 := ⟨_, rfl⟩
        rw [← hx] at c0 c1 c2 c3 hos2 hnext
        obtain ⟨kk, tt, nn, ii⟩ := x
        simp only at c0 c1 c2 c3 hos2 hnext
        have hnew : ∀ r, xs.getD k 0 % 5 = r → strB (o ++ (sepB.getD r ⟨#[]⟩ ++ tt)) = outK sep l (k + 1) := fun r hr => by
          rw [hnext, strB_appendB, strB_appendB, HSP.out k r hr, ho.out]
        have HNW := Lib.hid hnew
        have hts : tt.size ≤ 6500 := by omega
        have HKA := Lib.hid (fun (W : World) (q : Kept (fun _ => False) (wr.alloc (.cells #[.int .u8 (kk : Int), .string tt, .int .i64 nn, .int .i64 ii] 31)) W) => (hkw.out.then (Kept.alloc (fun _ => False) wr (.cells #[.int .u8 (kk : Int), .string tt, .int .i64 nn, .int .i64 ii] 31))).then q)
        clear hx hos2 hnext hnew
        by_cases hkf : k < fn
        · have l2 : (k : Int) < (fn : Int) := by omega
          obtain ⟨fg, foff, rfl, fcell⟩ := reads_at (HXR.out.kept (K3.out.then hkw.out) (fun _ _ h => h)) (k := k) (by rw [← HFL.out]; exact hkf)
          have hfg : fg < wr.heap.size := World.block_lt_of_cell? wr _ fcell
          have hf256 : xs.getD k 0 < 256 := by
            have hkx : k < xs.length := by rw [← HFL.out]; exact hkf
            have e : xs.getD k 0 = xs[k] := by simp [List.getD, hkx]
            rw [e]; exact HXB.out _ (List.getElem_mem _)
          obtain ⟨f, hf⟩ : ∃ f, f = xs.getD k 0 := ⟨_, rfl⟩
          rw [← hf] at fcell hf256 HNW
          clear hf
          have h5 : f % 5 = 0 ∨ f % 5 = 1 ∨ f % 5 = 2 ∨ f % 5 = 3 ∨ f % 5 = 4 := by omega
          have fcell2 : (wr.alloc (.cells #[.int .u8 (kk : Int), .string tt, .int .i64 nn, .int .i64 ii] 31)).cell? ⟨fg, foff + k, none⟩ = some (.int .u8 (f : Nat)) := by rw [World.cell?_alloc_lt _ _ _ hfg]; exact fcell
          rcases h5 with h5 | h5 | h5 | h5 | h5
          · have hnw := HNW.out 0 h5
            have em : (f : Int).tmod 5 = 0 ∧ (f : Int) % 5 = 0 := ⟨by rw [Int.tmod_eq_emod_of_nonneg (by omega)]; omega, by omega⟩
            obtain ⟨em1, em2⟩ := em
            clear h5
            have hnw2 : Hid (strB (o ++ (⟨#[32]⟩ ++ tt)) = outK sep l (k + 1)) := hnw
            have s1 : ¬ 9223372036854775807 < 1 + tt.size := by omega
            have s2 : ¬ 9223372036854775807 < o.size + (1 + tt.size) := by omega
            clear hnw HNW
            go_wp2_with fail
            go_region_with (fail)
            all_goals
              have HE : Hid (Kept (fun _ => False) w3 _) := HKA.out _ ((Kept.refl (fun _ => False) _).drew.then (Kept.alloc _ _ (.cells #[.string ⟨#[32]⟩, .string ⟨#[9, 10]⟩, .string ⟨#[32, 35, 32, 110, 111, 59, 32, 116, 111, 107, 101, 110, 45, 62, 10]⟩, .string ⟨#[13, 32, 10, 35, 10]⟩, .string ⟨#[10]⟩] 9)))
              go_wp2_with fail
              go_roundw
              case rel => first | exact ⟨k + 1, _, by omega, by go_num, rfl, hnw2, HE⟩ | ((repeat apply Exists.intro); exact ⟨⟨k + 1, _, by omega, by go_num, rfl, hnw2, HE⟩, rfl⟩)
              case measure => simp [intOf]; omega
          · have hnw := HNW.out 1 h5
            have em : (f : Int).tmod 5 = 1 ∧ (f : Int) % 5 = 1 := ⟨by rw [Int.tmod_eq_emod_of_nonneg (by omega)]; omega, by omega⟩
            obtain ⟨em1, em2⟩ := em
            clear h5
            have hnw2 : Hid (strB (o ++ (⟨#[9, 10]⟩ ++ tt)) = outK sep l (k + 1)) := hnw
            have s1 : ¬ 9223372036854775807 < 2 + tt.size := by omega
            have s2 : ¬ 9223372036854775807 < o.size + (2 + tt.size) := by omega
            clear hnw HNW
            go_wp2_with fail
            go_region_with (fail)
            all_goals
              have HE : Hid (Kept (fun _ => False) w3 _) := HKA.out _ ((Kept.refl (fun _ => False) _).drew.then (Kept.alloc _ _ (.cells #[.string ⟨#[32]⟩, .string ⟨#[9, 10]⟩, .string ⟨#[32, 35, 32, 110, 111, 59, 32, 116, 111, 107, 101, 110, 45, 62, 10]⟩, .string ⟨#[13, 32, 10, 35, 10]⟩, .string ⟨#[10]⟩] 9)))
              go_wp2_with fail
              go_roundw
              case rel => first | exact ⟨k + 1, _, by omega, by go_num, rfl, hnw2, HE⟩ | ((repeat apply Exists.intro); exact ⟨⟨k + 1, _, by omega, by go_num, rfl, hnw2, HE⟩, rfl⟩)
              case measure => simp [intOf]; omega
          · have hnw := HNW.out 2 h5
            have em : (f : Int).tmod 5 = 2 ∧ (f : Int) % 5 = 2 := ⟨by rw [Int.tmod_eq_emod_of_nonneg (by omega)]; omega, by omega⟩
            obtain ⟨em1, em2⟩ := em
            clear h5
            have hnw2 : Hid (strB (o ++ (⟨#[32, 35, 32, 110, 111, 59, 32, 116, 111, 107, 101, 110, 45, 62, 10]⟩ ++ tt)) = outK sep l (k + 1)) := hnw
            have s1 : ¬ 9223372036854775807 < 15 + tt.size := by omega
            have s2 : ¬ 9223372036854775807 < o.size + (15 + tt.size) := by omega
            clear hnw HNW
            go_wp2_with fail
            go_region_with (fail)
            all_goals
              have HE : Hid (Kept (fun _ => False) w3 _) := HKA.out _ ((Kept.refl (fun _ => False) _).drew.then (Kept.alloc _ _ (.cells #[.string ⟨#[32]⟩, .string ⟨#[9, 10]⟩, .string ⟨#[32, 35, 32, 110, 111, 59, 32, 116, 111, 107, 101, 110, 45, 62, 10]⟩, .string ⟨#[13, 32, 10, 35, 10]⟩, .string ⟨#[10]⟩] 9)))
              go_wp2_with fail
              go_roundw
              case rel => first | exact ⟨k + 1, _, by omega, by go_num, rfl, hnw2, HE⟩ | ((repeat apply Exists.intro); exact ⟨⟨k + 1, _, by omega, by go_num, rfl, hnw2, HE⟩, rfl⟩)
              case measure => simp [intOf]; omega
          · have hnw := HNW.out 3 h5
            have em : (f : Int).tmod 5 = 3 ∧ (f : Int) % 5 = 3 := ⟨by rw [Int.tmod_eq_emod_of_nonneg (by omega)]; omega, by omega⟩
            obtain ⟨em1, em2⟩ := em
            clear h5
            have hnw2 : Hid (strB (o ++ (⟨#[13, 32, 10, 35, 10]⟩ ++ tt)) = outK sep l (k + 1)) := hnw
            have s1 : ¬ 9223372036854775807 < 5 + tt.size := by omega
            have s2 : ¬ 9223372036854775807 < o.size + (5 + tt.size) := by omega
            clear hnw HNW
            go_wp2_with fail
            go_region_with (fail)
            all_goals
              have HE : Hid (Kept (fun _ => False) w3 _) := HKA.out _ ((Kept.refl (fun _ => False) _).drew.then (Kept.alloc _ _ (.cells #[.string ⟨#[32]⟩, .string ⟨#[9, 10]⟩, .string ⟨#[32, 35, 32, 110, 111, 59, 32, 116, 111, 107, 101, 110, 45, 62, 10]⟩, .string ⟨#[13, 32, 10, 35, 10]⟩, .string ⟨#[10]⟩] 9)))
              go_wp2_with fail
              go_roundw
              case rel => first | exact ⟨k + 1, _, by omega, by go_num, rfl, hnw2, HE⟩ | ((repeat apply Exists.intro); exact ⟨⟨k + 1, _, by omega, by go_num, rfl, hnw2, HE⟩, rfl⟩)
              case measure => simp [intOf]; omega
          · have hnw := HNW.out 4 h5
            have em : (f : Int).tmod 5 = 4 ∧ (f : Int) % 5 = 4 := ⟨by rw [Int.tmod_eq_emod_of_nonneg (by omega)]; omega, by omega⟩
            obtain ⟨em1, em2⟩ := em
            clear h5
            have hnw2 : Hid (strB (o ++ (⟨#[10]⟩ ++ tt)) = outK sep l (k + 1)) := hnw
            have s1 : ¬ 9223372036854775807 < 1 + tt.size := by omega
            have s2 : ¬ 9223372036854775807 < o.size + (1 + tt.size) := by omega
            clear hnw HNW
            go_wp2_with fail
            go_region_with (fail)
            all_goals
              have HE : Hid (Kept (fun _ => False) w3 _) := HKA.out _ ((Kept.refl (fun _ => False) _).drew.then (Kept.alloc _ _ (.cells #[.string ⟨#[32]⟩, .string ⟨#[9, 10]⟩, .string ⟨#[32, 35, 32, 110, 111, 59, 32, 116, 111, 107, 101, 110, 45, 62, 10]⟩, .string ⟨#[13, 32, 10, 35, 10]⟩, .string ⟨#[10]⟩] 9)))
              go_wp2_with fail
              go_roundw
              case rel => first | exact ⟨k + 1, _, by omega, by go_num, rfl, hnw2, HE⟩ | ((repeat apply Exists.intro); exact ⟨⟨k + 1, _, by omega, by go_num, rfl, hnw2, HE⟩, rfl⟩)
              case measure => simp [intOf]; omega
        · have l2 : ¬ (k : Int) < (fn : Int) := by omega
          have h0 : xs.getD k 0 = 0 := by
            have hkx : ¬ k < xs.length := by rw [← HFL.out]; exact hkf
            simp [List.getD, hkx]
          rw [h0] at HNW
          clear h0
          have hnw := HNW.out 0 rfl
          have hnw2 : Hid (strB (o ++ (⟨#[32]⟩ ++ tt)) = outK sep l (k + 1)) := hnw
          have s1 : ¬ 9223372036854775807 < 1 + tt.size := by omega
          have s2 : ¬ 9223372036854775807 < o.size + (1 + tt.size) := by omega
          clear hnw HNW
          go_wp2_with fail
          go_region_with (fail)
          all_goals
            have HE : Hid (Kept (fun _ => False) w3 _) := HKA.out _ ((Kept.refl (fun _ => False) _).drew.then (Kept.alloc _ _ (.cells #[.string ⟨#[32]⟩, .string ⟨#[9, 10]⟩, .string ⟨#[32, 35, 32, 110, 111, 59, 32, 116, 111, 107, 101, 110, 45, 62, 10]⟩, .string ⟨#[13, 32, 10, 35, 10]⟩, .string ⟨#[10]⟩] 9)))
            go_wp2_with fail
            go_roundw
            case rel => first | exact ⟨k + 1, _, by omega, by go_num, rfl, hnw2, HE⟩ | ((repeat apply Exists.intro); exact ⟨⟨k + 1, _, by omega, by go_num, rfl, hnw2, HE⟩, rfl⟩)
            case measure => simp [intOf]; omega
      · obtain rfl : N = k := by omega
        have l1 : ¬ (N : Int) < (N : Int) := by omega
        have hO : strB (o ++ ⟨#[35]⟩) = bodyT sep l ++ [35] := by
          rw [strB_appendB, ho.out, HN.out, show outK sep l l.length = bodyT sep l from bodyT_range l sep]; rfl
        obtain ⟨q1, q2, q3, q4⟩ := HO.out _ hO
        have HT := Lib.hid (T3.out.kept hkw.out (fun _ _ h => h))
        have s0 : ¬ 9223372036854775807 < o.size + 1 := by omega
        have hl4 : l.length ≤ 1000 := by rw [← HN.out]; omega
        have HSC := Lib.hid (fun W hW => tscan_any (o ++ ⟨#[35]⟩) W (by omega) hW)
        obtain ⟨R2, hR2⟩ : ∃ R2, R2 = scanS (o ++ ⟨#[35]⟩) := ⟨_, rfl⟩
        simp only [← hR2] at HSC q3 q4
        obtain ⟨L2, e2⟩ := R2
        simp only at HSC q3 q4
        subst q3
        simp only at HSC
        have hl2 : L2.length = l.length := by
          have := congrArg List.length q4
          simpa using this
        have htx : textsS L2 = textsS l := by rw [← texts_zT L2, q4, texts_zT]
        have hjl := HJL.out
        have HJ1 := Lib.hid (fun v W (h : Toks .u8 W v l) => tjoin_any v l W h (by omega) (by omega))
        have HJ2 := Lib.hid (fun v W (h : Toks .u8 W v L2) => tjoin_any v L2 W h (by omega) (by rw [htx]; omega))
        rw [htx] at HJ2
        have HP1 := Lib.hid (fun v W (h : Toks .u8 W v l) => plain_any v l W h (by omega))
        have HP2 := Lib.hid (fun v W (h : Toks .u8 W v L2) => plain_any v L2 W h (by omega))
        rw [q4] at HP2
        generalize joinB (textsS l) = JJ at HJ1 HJ2
        clear hR2 q1 q2 q4 hO htx hjl hl2 hl4 hle HO HJL HSP ho
        go_wp2_with fail
        refine (HSC.out _ (HS.out.kept (K3.out.then hkw.out) (fun h => h))).mono ?_
        rintro e w4 ⟨v4, rfl, o4, k4⟩
        have T4 := Lib.hid o4.toks
        have K4 := Lib.hid k4
        clear o4 k4
        go_wp2_with fail
        refine (HP1.out _ _ (HT.out.kept K4.out (fun _ _ h => h))).mono ?_
        rintro e w5 ⟨v5, rfl, t5, k5⟩
        have T5 := Lib.hid t5
        have K5 := Lib.hid (K4.out.then k5)
        have T45 := Lib.hid (T4.out.kept k5 (fun _ _ h => h))
        clear t5 k5
        go_wp2_with fail
        refine (HP2.out _ _ T45.out).mono ?_
        rintro e w6 ⟨v6, rfl, t6, k6⟩
        have T6 := Lib.hid t6
        have T56 := Lib.hid (T5.out.kept k6 (fun _ _ h => h))
        have T46 := Lib.hid (T45.out.kept k6 (fun _ _ h => h))
        have K6 := Lib.hid (K5.out.then k6)
        clear t6 k6
        go_wp2_with fail
        refine (teq_any _ _ (l.map zT) w6 T56.out T6.out).mono ?_
        rintro e w7 ⟨rfl, k7⟩
        have K7 := Lib.hid (K6.out.then k7)
        have T47 := Lib.hid (T46.out.kept k7 (fun _ _ h => h))
        clear k7
        go_wp2_with fail
        refine (HJ1.out _ _ (HT.out.kept K7.out (fun _ _ h => h))).mono ?_
        rintro e w8 ⟨rfl, k8⟩
        have K8 := Lib.hid (K7.out.then k8)
        have T48 := Lib.hid (T47.out.kept k8 (fun _ _ h => h))
        clear k8
        go_wp2_with fail
        refine (HJ2.out _ _ T48.out).mono ?_
        rintro e w9 ⟨rfl, k9⟩
        have K9 := Lib.hid (K3.out.then (hkw.out.then (K8.out.then k9)))
        clear k9
        go_wp2_with fail
        go_ret
        exact ⟨rfl, K9.out⟩
  · have hbb : ((b : Int) == 0) = false := beq_eq_false_iff_ne.2 (by omega)
    have hbb2 : ((b : Int) != 0) = true := by simp only [bne, hbb, Bool.not_false]
    have hnil := HER.out hb0
    subst hnil
    clear HER HAG HBS HOT
    go_wp2_with fail
    go_ret
    exact ⟨rfl, K3.out⟩
end Go.Proofs.YthkjcgcfbodgbaaDoor
