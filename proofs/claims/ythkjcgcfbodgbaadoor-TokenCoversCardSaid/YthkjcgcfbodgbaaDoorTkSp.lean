/-
  Tokens: strings.Split at a line break, strings.Cut at '#', strings.Trim at a set of bytes, laid.
-/
import Derived.Test.YthkjcgcfbodgbaaDoorTkK
import Derived.Test.YthkjcgcfbodgbaaDoorNamV
import Derived.Shelf.Strings.SplitCore
import Derived.Shelf.Strings.Search3
import Derived.Shelf.Strings.Count
import Derived.Shelf.Strings.SlTrimAscii
import Derived.Lib.SplitLaws
import Derived.Lib.CutLaws
import Derived.Sort.Grow
namespace Go.Proofs.YthkjcgcfbodgbaaDoor
open Go.RowKit Go.Shelf
set_option linter.unusedSimpArgs false
set_option linter.unusedVariables false
set_option maxRecDepth 100000

def laysGenT_ren : Go.Shelf.Ren := ⟨fun | 138 => 83 | 143 => 84 | 195 => 101 | 197 => 87 | 217 => 99 | 218 => 102 | 219 => 85 | 221 => 45 | 224 => 104 | 225 => 103 | 260 => 106 | 266 => 112 | 267 => 105 | 268 => 82 | 314 => 115 | n => n, fun | 0 => 0 | 3 => 3 | 4 => 4 | 5 => 5 | 9 => 9 | 21 => 21 | 31 => 32 | 46 => 87 | 51 => 112 | 105 => 109 | 119 => 127 | 138 => 129 | 139 => 130 | 146 => 113 | n => n, fun | 1 => 1 | 3 => 2 | 4 => 3 | n => n⟩
theorem laysGenT : Go.Proofs.Lays.n221 Tryd.prog laysGenT_ren := {
  mixed := by kernel_rfl
  f138 := Tryd.func83.trans (congrArg some (by kernel_rfl))
  f143 := Tryd.func84.trans (congrArg some (by kernel_rfl))
  f195 := Tryd.func101.trans (congrArg some (by kernel_rfl))
  f197 := Tryd.func87.trans (congrArg some (by kernel_rfl))
  f217 := Tryd.func99.trans (congrArg some (by kernel_rfl))
  f218 := Tryd.func102.trans (congrArg some (by kernel_rfl))
  f219 := Tryd.func85.trans (congrArg some (by kernel_rfl))
  f221 := Tryd.func45.trans (congrArg some (by kernel_rfl))
  f224 := Tryd.func104.trans (congrArg some (by kernel_rfl))
  f225 := Tryd.func103.trans (congrArg some (by kernel_rfl))
  f260 := Tryd.func106.trans (congrArg some (by kernel_rfl))
  f266 := Tryd.func112.trans (congrArg some (by kernel_rfl))
  f267 := Tryd.func105.trans (congrArg some (by kernel_rfl))
  f268 := Tryd.func82.trans (congrArg some (by kernel_rfl))
  f314 := Tryd.func115.trans (congrArg some (by kernel_rfl))
  t0 := Tryd.underlying0
  a0 := Tryd.isAgg0
  z0 := Tryd.sizeOf0
  v0 := Tryd.zeroValue0
  t3 := Tryd.underlying3
  a3 := Tryd.isAgg3
  z3 := Tryd.sizeOf3
  v3 := Tryd.zeroValue3
  t4 := Tryd.underlying4
  a4 := Tryd.isAgg4
  z4 := Tryd.sizeOf4
  v4 := Tryd.zeroValue4
  t5 := Tryd.underlying5
  a5 := Tryd.isAgg5
  z5 := Tryd.sizeOf5
  v5 := Tryd.zeroValue5
  t9 := Tryd.underlying9
  a9 := Tryd.isAgg9
  z9 := Tryd.sizeOf9
  v9 := Tryd.zeroValue9
  t21 := Tryd.underlying21
  a21 := Tryd.isAgg21
  z21 := Tryd.sizeOf21
  v21 := Tryd.zeroValue21
  t31 := Tryd.underlying32
  a31 := Tryd.isAgg32
  z31 := Tryd.sizeOf32
  v31 := Tryd.zeroValue32
  t46 := Tryd.underlying87
  a46 := Tryd.isAgg87
  z46 := Tryd.sizeOf87
  v46 := Tryd.zeroValue87
  t51 := Tryd.underlying112
  a51 := Tryd.isAgg112
  z51 := Tryd.sizeOf112
  v51 := Tryd.zeroValue112
  t105 := Tryd.underlying109
  a105 := Tryd.isAgg109
  z105 := Tryd.sizeOf109
  v105 := Tryd.zeroValue109
  t119 := Tryd.underlying127
  a119 := Tryd.isAgg127
  z119 := Tryd.sizeOf127
  t138 := Tryd.underlying129
  a138 := Tryd.isAgg129
  z138 := Tryd.sizeOf129
  v138 := Tryd.zeroValue129
  t139 := Tryd.underlying130
  a139 := Tryd.isAgg130
  z139 := Tryd.sizeOf130
  v139 := Tryd.zeroValue130
  t146 := Tryd.underlying113
  a146 := Tryd.isAgg113
  z146 := Tryd.sizeOf113
  v146 := Tryd.zeroValue113
  g1 := by kernel_rfl
  g3 := by kernel_rfl
  g4 := by kernel_rfl }

def laysCutT_ren : Go.Shelf.Ren := ⟨fun | 217 => 99 | 219 => 85 | 220 => 46 | 224 => 104 | 225 => 103 | 266 => 112 | 267 => 105 | 314 => 115 | n => n, fun | 3 => 3 | 4 => 4 | 5 => 5 | 9 => 9 | 46 => 87 | 51 => 112 | 146 => 113 | n => n, fun | 1 => 1 | n => n⟩
theorem laysCutT : Go.Proofs.Lays.n220 Tryd.prog laysCutT_ren := {
  mixed := by kernel_rfl
  f217 := Tryd.func99.trans (congrArg some (by kernel_rfl))
  f219 := Tryd.func85.trans (congrArg some (by kernel_rfl))
  f220 := Tryd.func46.trans (congrArg some (by kernel_rfl))
  f224 := Tryd.func104.trans (congrArg some (by kernel_rfl))
  f225 := Tryd.func103.trans (congrArg some (by kernel_rfl))
  f266 := Tryd.func112.trans (congrArg some (by kernel_rfl))
  f267 := Tryd.func105.trans (congrArg some (by kernel_rfl))
  f314 := Tryd.func115.trans (congrArg some (by kernel_rfl))
  t3 := Tryd.underlying3
  a3 := Tryd.isAgg3
  z3 := Tryd.sizeOf3
  v3 := Tryd.zeroValue3
  t4 := Tryd.underlying4
  a4 := Tryd.isAgg4
  z4 := Tryd.sizeOf4
  v4 := Tryd.zeroValue4
  t5 := Tryd.underlying5
  a5 := Tryd.isAgg5
  z5 := Tryd.sizeOf5
  v5 := Tryd.zeroValue5
  t9 := Tryd.underlying9
  a9 := Tryd.isAgg9
  z9 := Tryd.sizeOf9
  v9 := Tryd.zeroValue9
  t46 := Tryd.underlying87
  a46 := Tryd.isAgg87
  z46 := Tryd.sizeOf87
  v46 := Tryd.zeroValue87
  t51 := Tryd.underlying112
  a51 := Tryd.isAgg112
  z51 := Tryd.sizeOf112
  v51 := Tryd.zeroValue112
  t146 := Tryd.underlying113
  a146 := Tryd.isAgg113
  z146 := Tryd.sizeOf113
  v146 := Tryd.zeroValue113
  g1 := by kernel_rfl }

def laysTrimT_ren : Go.Shelf.Ren := ⟨fun | 119 => 116 | 120 => 108 | 137 => 76 | 151 => 88 | 152 => 107 | 160 => 18 | 197 => 87 | 217 => 99 | 224 => 104 | 225 => 103 | 227 => 49 | 228 => 86 | 231 => 47 | 232 => 48 | 233 => 50 | 234 => 51 | 235 => 52 | 236 => 53 | 260 => 106 | 266 => 112 | 271 => 89 | n => n, fun | 0 => 0 | 3 => 3 | 4 => 4 | 5 => 5 | 9 => 9 | 21 => 21 | 46 => 87 | 105 => 109 | 116 => 82 | 117 => 83 | 119 => 127 | 124 => 86 | 138 => 129 | 139 => 130 | n => n, fun | 3 => 2 | 4 => 3 | n => n⟩
theorem laysTrimT : Go.Proofs.Lays.n160 Tryd.prog laysTrimT_ren := {
  mixed := by kernel_rfl
  f119 := Tryd.func116.trans (congrArg some (by kernel_rfl))
  f120 := Tryd.func108.trans (congrArg some (by kernel_rfl))
  f137 := Tryd.func76.trans (congrArg some (by kernel_rfl))
  f151 := Tryd.func88.trans (congrArg some (by kernel_rfl))
  f152 := Tryd.func107.trans (congrArg some (by kernel_rfl))
  f160 := Tryd.func18.trans (congrArg some (by kernel_rfl))
  f197 := Tryd.func87.trans (congrArg some (by kernel_rfl))
  f217 := Tryd.func99.trans (congrArg some (by kernel_rfl))
  f224 := Tryd.func104.trans (congrArg some (by kernel_rfl))
  f225 := Tryd.func103.trans (congrArg some (by kernel_rfl))
  f227 := Tryd.func49.trans (congrArg some (by kernel_rfl))
  f228 := Tryd.func86.trans (congrArg some (by kernel_rfl))
  f231 := Tryd.func47.trans (congrArg some (by kernel_rfl))
  f232 := Tryd.func48.trans (congrArg some (by kernel_rfl))
  f233 := Tryd.func50.trans (congrArg some (by kernel_rfl))
  f234 := Tryd.func51.trans (congrArg some (by kernel_rfl))
  f235 := Tryd.func52.trans (congrArg some (by kernel_rfl))
  f236 := Tryd.func53.trans (congrArg some (by kernel_rfl))
  f260 := Tryd.func106.trans (congrArg some (by kernel_rfl))
  f266 := Tryd.func112.trans (congrArg some (by kernel_rfl))
  f271 := Tryd.func89.trans (congrArg some (by kernel_rfl))
  t0 := Tryd.underlying0
  a0 := Tryd.isAgg0
  z0 := Tryd.sizeOf0
  v0 := Tryd.zeroValue0
  t3 := Tryd.underlying3
  a3 := Tryd.isAgg3
  z3 := Tryd.sizeOf3
  v3 := Tryd.zeroValue3
  t4 := Tryd.underlying4
  a4 := Tryd.isAgg4
  z4 := Tryd.sizeOf4
  v4 := Tryd.zeroValue4
  t5 := Tryd.underlying5
  a5 := Tryd.isAgg5
  z5 := Tryd.sizeOf5
  v5 := Tryd.zeroValue5
  t9 := Tryd.underlying9
  a9 := Tryd.isAgg9
  z9 := Tryd.sizeOf9
  v9 := Tryd.zeroValue9
  t21 := Tryd.underlying21
  a21 := Tryd.isAgg21
  z21 := Tryd.sizeOf21
  v21 := Tryd.zeroValue21
  t46 := Tryd.underlying87
  a46 := Tryd.isAgg87
  z46 := Tryd.sizeOf87
  v46 := Tryd.zeroValue87
  t105 := Tryd.underlying109
  a105 := Tryd.isAgg109
  z105 := Tryd.sizeOf109
  v105 := Tryd.zeroValue109
  t116 := Tryd.underlying82
  a116 := Tryd.isAgg82
  z116 := Tryd.sizeOf82
  t117 := Tryd.underlying83
  a117 := Tryd.isAgg83
  z117 := Tryd.sizeOf83
  v117 := Tryd.zeroValue83
  t119 := Tryd.underlying127
  a119 := Tryd.isAgg127
  z119 := Tryd.sizeOf127
  t124 := Tryd.underlying86
  a124 := Tryd.isAgg86
  z124 := Tryd.sizeOf86
  v124 := Tryd.zeroValue86
  t138 := Tryd.underlying129
  a138 := Tryd.isAgg129
  z138 := Tryd.sizeOf129
  v138 := Tryd.zeroValue129
  t139 := Tryd.underlying130
  a139 := Tryd.isAgg130
  z139 := Tryd.sizeOf130
  v139 := Tryd.zeroValue130
  g3 := by kernel_rfl
  g4 := by kernel_rfl }

theorem index_oneT : ∀ (l : List UInt8) (c : UInt8), Lib.index l [c] = Lib.indexByte l c
  | [], c => rfl
  | b :: l, c => by
    rw [Lib.index, Lib.indexByte, index_oneT l c]
    by_cases h : b = c
    · subst h; simp [List.isPrefixOf]
    · simp [List.isPrefixOf, h, Ne.symm h]
theorem indexB_oneT (x : ByteArray) (c : UInt8) : Lib.indexB x ⟨#[c]⟩ = Lib.indexByte x.data.toList c := index_oneT _ _
theorem countB_oneT (x : ByteArray) (c : UInt8) : Lib.countB x ⟨#[c]⟩ = Lib.countByte x.data.toList c := Lib.count_one c x.data.toList
theorem gen_hi9T : (Tryd.prog.info? (laysGenT_ren.t 9)).map (fun i => (i.zero, i.size, i.bytes)) = some (some (.string ByteArray.empty), 1, 16) := by kernel_rfl
/-- The lines of a text. -/
def linesB (s : ByteArray) : List ByteArray := Lib.splitB ⟨#[10]⟩ 0 (Lib.countB s ⟨#[10]⟩) s
theorem linesB_len (s : ByteArray) : (linesB s).length = Lib.countB s ⟨#[10]⟩ + 1 ∧ Lib.countB s ⟨#[10]⟩ ≤ s.size :=
  ⟨Lib.splitB_all _ (by decide) 0 _ s rfl, Lib.countB_le _ (by decide) s.size s (Nat.le_refl _)⟩
theorem genT_any (s : ByteArray) (hs : s.size ≤ 1000000) (w : World) : Calls Tryd.prog 45 #[.string s, .string ⟨#[10]⟩, .int .i64 0, .int .i64 (-1)] w fun e w' =>
    e = .returned (.slice (some ⟨w.heap.size, 0, none⟩) (linesB s).length (linesB s).length) ∧ w' = w.alloc (.cells ((linesB s).map Value.string).toArray 9) := by
  obtain ⟨h1, h2⟩ := linesB_len s
  have c := Any.strings_genSplit_core laysGenT gen_hi9T s ⟨#[10]⟩ 0 (-1) (Lib.countB s ⟨#[10]⟩ + 1) w (by omega) (by decide) (Nat.zero_le _)
    (fun x cs hx => by rw [indexB_oneT]; exact Any.strings_Index_one { laysGenT with } x 10 _)
    (by rw [countB_oneT]; exact Any.strings_Count_one { laysGenT with } s 10 w) (by decide) (by decide) (by rw [if_pos (by decide)]; omega)
  rw [Nat.add_sub_cancel] at c
  change Calls Tryd.prog 45 _ w fun e w' => e = .returned (.slice (some ⟨w.heap.size, 0, none⟩) (linesB s).length _) ∧ w' = w.alloc (.cells (Lib.cellsOf (linesB s) _) 9) at c
  rw [← h1, Lib.cellsOf_full] at c
  exact c
/-- strings.Split at a line break. -/
theorem split_line (s : ByteArray) (hs : s.size ≤ 1000000) (w : World) : Calls Tryd.prog 16 #[.string s, .string ⟨#[10]⟩] w fun e w' =>
    e = .returned (.slice (some ⟨w.heap.size, 0, none⟩) (linesB s).length (linesB s).length) ∧ Strs w' (.slice (some ⟨w.heap.size, 0, none⟩) (linesB s).length (linesB s).length) (linesB s) ∧ Kept (fun _ => False) w w' := by
  have HC := Lib.hid (genT_any s hs)
  have hl : (linesB s).length ≤ 1000001 := by have := linesB_len s; omega
  have HST : Hid (∀ W : World, Strs (W.alloc (.cells ((linesB s).map Value.string).toArray 9)) (.slice (some ⟨W.heap.size, 0, none⟩) (linesB s).length (linesB s).length) (linesB s)) := fun W => by
    refine Or.inr ⟨W.heap.size, 0, _, rfl, Nat.le_refl _, by unfold maxLen; omega, by simp, fun i hi => ?_⟩
    rw [cell_of_row _ W.heap.size (0 + i) _ 9 (0, 0) (heap_alloc_new W _), Nat.zero_add]
    simp [List.getD, hi]
  have HK := Lib.hid (fun W : World => Kept.alloc (fun _ => False) W (.cells ((linesB s).map Value.string).toArray 9))
  clear hl
  generalize linesB s = ls at HC HST HK ⊢
  obtain ⟨L, hL⟩ : ∃ L, L = ls.length := ⟨_, rfl⟩
  rw [← hL] at HC HST ⊢
  clear hL
  go_enter Tryd.func16, Tryd.ntmps16
  go_wp2_with fail
  refine (HC.out _).mono ?_
  rintro e w' ⟨rfl, hw⟩
  have HW := Lib.hid hw
  clear hw
  go_wp2_with fail
  go_ret
  rw [HW.out]
  exact ⟨rfl, HST.out _, HK.out _⟩

/-- What stands before the first byte c. -/
theorem cut_take (c : UInt8) : ∀ l : List UInt8, (Lib.cut l [c]).1 = l.takeWhile (fun b => b != c)
  | [] => by unfold Lib.cut; split <;> simp
  | b :: l => by
    have ih := cut_take c l
    unfold Lib.cut at ih ⊢
    rw [index_oneT] at ih ⊢
    rw [Lib.indexByte]
    have hge := Lib.indexByte_ge l c
    by_cases h : b = c
    · subst h
      simp
    · have hb : (b != c) = true := bne_iff_ne.2 h
      have h' : (b == c) = false := beq_eq_false_iff_ne.2 h
      rw [List.takeWhile_cons_of_pos (p := fun x : UInt8 => x != c) hb]
      simp only [h', Bool.false_eq_true, if_false, h]
      by_cases h0 : Lib.indexByte l c = -1
      · rw [h0] at ih ⊢
        simp at ih ⊢
        exact ih
      · rw [if_pos (by omega)] at ih
        have e : (Lib.indexByte l c + 1).toNat = (Lib.indexByte l c).toNat + 1 := by omega
        have hm : (Lib.indexByte l c == -1) = false := beq_eq_false_iff_ne.2 h0
        simp only [hm, Bool.false_eq_true, if_false]
        rw [if_pos (by omega), e]
        exact congrArg (b :: ·) ih
/-- strings.Cut at '#': what stands before it. -/
theorem scut_hash (s : ByteArray) (hs : s.size ≤ 1000000) (w : World) : Calls Tryd.prog 46 #[.string s, .string ⟨#[35]⟩] w fun e w' =>
    ∃ t b, e = .returned (.tuple #[.string ⟨(s.data.toList.takeWhile (fun b => b != 35)).toArray⟩, .string t, .bool b]) ∧ Kept (fun _ => False) w w' := by
  have hI := fun W => Any.stringslite_Index_one { laysCutT with } s 35 W
  have hc := cut_take 35 s.data.toList
  rcases Lib.indexB_cases s ⟨#[35]⟩ with hix | ⟨i, hix, hroom⟩
  · obtain ⟨e1, e2, e3⟩ := Lib.cutB_miss s ⟨#[35]⟩ hix
    rw [indexB_oneT] at hix
    rw [hix] at hI
    have e1' : (⟨(s.data.toList.takeWhile (fun b => b != 35)).toArray⟩ : ByteArray) = s := by rw [← hc]; exact e1
    rw [e1']
    have HI := Lib.hid hI
    clear hI hc e1 e2 e3 e1' hix hs
    go_enter Tryd.func46, Tryd.ntmps46
    go_wp2_with fail
    refine (HI.out _).mono ?_
    rintro e w' ⟨rfl, rfl⟩
    go_wp2_with fail
    go_ret3
    exact ⟨_, _, rfl, Kept.refl _ _⟩
  · obtain ⟨e1, e2, e3⟩ := Lib.cutB_hit s ⟨#[35]⟩ i hix
    rw [indexB_oneT] at hix
    rw [hix] at hI
    have hroom' : i + 1 ≤ s.size := hroom
    have e1' : (⟨(s.data.toList.takeWhile (fun b => b != 35)).toArray⟩ : ByteArray) = s.extract 0 i := by rw [← hc]; exact e1
    rw [e1']
    have HI := Lib.hid hI
    have mixed : Tryd.prog.follows .mixedOrders = true := by kernel_rfl
    have c1 : (0 : Int) ≤ ↑i := by omega
    have c2 : (↑i : Int) ≤ ↑s.size := by omega
    have c3 : (0 : Int) ≤ ↑i + 1 := by omega
    have c4 : (↑i + 1 : Int) ≤ ↑s.size := by omega
    clear hI hc e1 e2 e3 e1' hix hroom
    go_enter Tryd.func46, Tryd.ntmps46
    go_wp2_with fail
    refine (HI.out _).mono ?_
    rintro e w' ⟨rfl, rfl⟩
    go_wp2_with fail
    go_region_o
    go_wp2_with fail
    go_ret3
    exact ⟨_, _, rfl, (Kept.refl _ _).drew⟩
theorem cut_hash (s : ByteArray) (hs : s.size ≤ 1000000) (w : World) : Calls Tryd.prog 17 #[.string s, .string ⟨#[35]⟩] w fun e w' =>
    ∃ t b, e = .returned (.tuple #[.string ⟨(s.data.toList.takeWhile (fun b => b != 35)).toArray⟩, .string t, .bool b]) ∧ Kept (fun _ => False) w w' := by
  have HC := Lib.hid (scut_hash s hs)
  generalize (⟨(s.data.toList.takeWhile (fun b => b != 35)).toArray⟩ : ByteArray) = y at HC ⊢
  go_enter Tryd.func17, Tryd.ntmps17
  go_wp2_with fail
  refine (HC.out _).mono ?_
  rintro e w' ⟨t, b, rfl, hk⟩
  have HK := Lib.hid hk
  clear hk
  go_wp2_with fail
  go_ret3
  exact ⟨_, _, rfl, HK.out⟩

theorem trim_hi : (Tryd.prog.info? (laysTrimT_ren.t 116)).map (fun i => (i.zero, i.size)) = some (some (.agg (Array.replicate 256 (.bool false))), 256) := by kernel_rfl
theorem dropW_all (p : UInt8 → Bool) : ∀ l : List UInt8, (∀ b ∈ l, p b = true) → l.dropWhile p = []
  | [], _ => rfl
  | b :: t, h => by
    rw [List.dropWhile_cons_of_pos (h b (by simp))]
    exact dropW_all p t (fun x hx => h x (List.mem_cons_of_mem _ hx))
theorem trimS_all (l cs : List UInt8) (h : ∀ b ∈ l, cs.contains b = true) : Lib.trimS l cs = [] := by
  unfold Lib.trimS
  have e : Lib.trimRightS l cs = [] := by
    unfold Lib.trimRightS
    rw [show l.reverse.dropWhile (cs.contains ·) = [] from dropW_all _ _ (fun b hb => h b (List.mem_reverse.1 hb))]
    rfl
  rw [e, Lib.trimLeftS_nil]
/-- strings.Trim at blanks: nothing is left of blanks. -/
theorem trim_blank (s : ByteArray) (hs : s.size ≤ 1000000) (h : ∀ b ∈ s.data.toList, ([32, 9, 13] : List UInt8).contains b = true) (w : World) : Calls Tryd.prog 18 #[.string s, .string ⟨#[32, 9, 13]⟩] w fun e w' =>
    e = .returned (.string ⟨#[]⟩) ∧ Kept (fun _ => False) w w' := by
  have c := Any.strings_Trim_laid laysTrimT trim_hi s ⟨#[32, 9, 13]⟩ w (by omega) (by decide) (ascii_of_all (by decide))
  rw [show Lib.trimS s.data.toList (⟨#[32, 9, 13]⟩ : ByteArray).data.toList = [] from trimS_all _ _ h] at c
  exact c.mono fun _ _ ⟨h1, h2⟩ => ⟨h1, Kept.ofBelow _ h2⟩
end Go.Proofs.YthkjcgcfbodgbaaDoor
