/-
  Tokens: strings.Repeat; a source behind blanks (plain words).
-/
import Derived.Test.YthkjcgcfbodgbaaDoorTkPq
import Derived.Shelf.Strings.Repeat
namespace Go.Proofs.YthkjcgcfbodgbaaDoor
open Go.RowKit Go.Shelf
set_option linter.unusedSimpArgs false
set_option linter.unusedVariables false
set_option maxRecDepth 100000

def laysRep_ren : Go.Shelf.Ren := ⟨fun | 99 => 55 | 105 => 22 | 165 => 56 | 166 => 57 | 169 => 59 | 170 => 58 | 206 => 92 | 212 => 54 | 240 => 93 | 241 => 94 | 263 => 90 | 264 => 91 | 276 => 109 | 277 => 110 | n => n, fun | 0 => 0 | 3 => 3 | 4 => 4 | 5 => 5 | 9 => 9 | 20 => 20 | 37 => 22 | 46 => 87 | 51 => 112 | 53 => 115 | 70 => 91 | 72 => 93 | 75 => 96 | 76 => 97 | 80 => 55 | 109 => 88 | 127 => 118 | 146 => 113 | 148 => 116 | 164 => 122 | n => n, fun | n => n⟩
theorem laysRep : Go.Proofs.Lays.n105 Tryd.prog laysRep_ren := {
  mixed := by kernel_rfl
  f99 := Tryd.func55.trans (congrArg some (by kernel_rfl))
  f105 := Tryd.func22.trans (congrArg some (by kernel_rfl))
  f165 := Tryd.func56.trans (congrArg some (by kernel_rfl))
  f166 := Tryd.func57.trans (congrArg some (by kernel_rfl))
  f169 := Tryd.func59.trans (congrArg some (by kernel_rfl))
  f170 := Tryd.func58.trans (congrArg some (by kernel_rfl))
  f206 := Tryd.func92.trans (congrArg some (by kernel_rfl))
  f212 := Tryd.func54.trans (congrArg some (by kernel_rfl))
  f240 := Tryd.func93.trans (congrArg some (by kernel_rfl))
  f241 := Tryd.func94.trans (congrArg some (by kernel_rfl))
  f263 := Tryd.func90.trans (congrArg some (by kernel_rfl))
  f264 := Tryd.func91.trans (congrArg some (by kernel_rfl))
  f276 := Tryd.func109.trans (congrArg some (by kernel_rfl))
  f277 := Tryd.func110.trans (congrArg some (by kernel_rfl))
  t0 := Tryd.underlying0
  a0 := Tryd.isAgg0
  z0 := Tryd.sizeOf0
  v0 := Tryd.zeroValue0
  t3 := Tryd.underlying3
  a3 := Tryd.isAgg3
  z3 := Tryd.sizeOf3
  v3 := Tryd.zeroValue3
  t4 := Tryd.underlying4
  a4 := Tryd.isAgg4
  z4 := Tryd.sizeOf4
  v4 := Tryd.zeroValue4
  t5 := Tryd.underlying5
  a5 := Tryd.isAgg5
  z5 := Tryd.sizeOf5
  v5 := Tryd.zeroValue5
  t9 := Tryd.underlying9
  a9 := Tryd.isAgg9
  z9 := Tryd.sizeOf9
  v9 := Tryd.zeroValue9
  t20 := Tryd.underlying20
  a20 := Tryd.isAgg20
  z20 := Tryd.sizeOf20
  v20 := Tryd.zeroValue20
  t37 := Tryd.underlying22
  a37 := Tryd.isAgg22
  z37 := Tryd.sizeOf22
  v37 := Tryd.zeroValue22
  t46 := Tryd.underlying87
  a46 := Tryd.isAgg87
  z46 := Tryd.sizeOf87
  v46 := Tryd.zeroValue87
  t51 := Tryd.underlying112
  a51 := Tryd.isAgg112
  z51 := Tryd.sizeOf112
  v51 := Tryd.zeroValue112
  t53 := Tryd.underlying115
  a53 := Tryd.isAgg115
  z53 := Tryd.sizeOf115
  v53 := Tryd.zeroValue115
  t70 := Tryd.underlying91
  a70 := Tryd.isAgg91
  z70 := Tryd.sizeOf91
  v70 := Tryd.zeroValue91
  t72 := Tryd.underlying93
  a72 := Tryd.isAgg93
  z72 := Tryd.sizeOf93
  v72 := Tryd.zeroValue93
  t75 := Tryd.underlying96
  a75 := Tryd.isAgg96
  z75 := Tryd.sizeOf96
  v75 := Tryd.zeroValue96
  t76 := Tryd.underlying97
  a76 := Tryd.isAgg97
  z76 := Tryd.sizeOf97
  v76 := Tryd.zeroValue97
  t109 := Tryd.underlying88
  a109 := Tryd.isAgg88
  z109 := Tryd.sizeOf88
  v109 := Tryd.zeroValue88
  t127 := Tryd.underlying118
  a127 := Tryd.isAgg118
  z127 := Tryd.sizeOf118
  v127 := Tryd.zeroValue118
  t146 := Tryd.underlying113
  a146 := Tryd.isAgg113
  z146 := Tryd.sizeOf113
  v146 := Tryd.zeroValue113
  t148 := Tryd.underlying116
  a148 := Tryd.isAgg116
  z148 := Tryd.sizeOf116
  v148 := Tryd.zeroValue116
  t164 := Tryd.underlying122
  a164 := Tryd.isAgg122
  z164 := Tryd.sizeOf122
  v164 := Tryd.zeroValue122 }

theorem laysRepX : Go.Proofs.Builder.Extra Tryd.prog laysRep_ren := {
  sizeBuilder := by kernel_rfl
  liesBuilder := by kernel_rfl
  t5 := Tryd.underlying5
  a5 := Tryd.isAgg5
  z5 := Tryd.sizeOf5
  v5 := Tryd.zeroValue5
  infoByte := by kernel_rfl
  cellsByte := by kernel_rfl
  sizeByte := by kernel_rfl
  neB5 := by decide }


/-- A byte, many times. -/
def repB (b : UInt8) (c : Nat) : ByteArray := ⟨(List.replicate c b).toArray⟩
theorem repB_size (b : UInt8) (c : Nat) : (repB b c).size = c := by simp [repB, ByteArray.size]
theorem repL_one (b : UInt8) : ∀ c : Nat, Lib.repeatL [b] c = List.replicate c b
  | 0 => rfl
  | c + 1 => by
    have ih := repL_one b c
    rw [List.replicate_succ]
    show [b] ++ Lib.repeatL [b] c = _
    rw [ih]; rfl
theorem srep_any (b : UInt8) (c : Nat) (w : World) (hc : c ≤ 1000000) :
    Calls Tryd.prog 22 #[.string ⟨#[b]⟩, .int .i64 c] w fun e w' => e = .returned (.string (repB b c)) ∧ Kept (fun _ => False) w w' :=
  (Any.strings_Repeat (P := Tryd.prog) (ρ := laysRep_ren) laysRep laysRepX ⟨#[b]⟩ c w (by omega) (by show 1 * c ≤ _; omega)).mono fun e w' ⟨h1, h2⟩ => ⟨by
    rw [h1]
    show Ending.returned (.string ⟨(Lib.repeatL [b] c).toArray⟩) = _
    rw [repL_one]; rfl, Kept.ofBelow _ h2⟩

/-! A source behind blanks. -/
theorem scanF_fuel (L : List Nat) : ∀ f f' i, L.length - i < f → L.length - i < f' → scanF L f i = scanF L f' i
  | 0, f', i, h, _ => by omega
  | f + 1, 0, i, _, h => by omega
  | f + 1, f' + 1, i, h, h' => by
    rw [scanF, scanF]
    split
    · rename_i hi
      split
      · rfl
      · rename_i h0
        have hl := firstT_len _ h0
        rw [List.length_drop] at hl
        have hs := skipT_le L (i + (firstT (L.drop i)).2.1) (by omega)
        rw [scanF_fuel L f f' (skipT L (i + (firstT (L.drop i)).2.1)) (by omega) (by omega)]
    · rfl
theorem blanks_drop (m : Nat) (L : List Nat) (i : Nat) : (List.replicate m 32 ++ L).drop (m + i) = L.drop i := by
  rw [List.drop_append]
  simp
theorem blanks_skip (m : Nat) (L : List Nat) (i : Nat) : skipT (List.replicate m 32 ++ L) (m + i) = m + skipT L i := by
  unfold skipT
  rw [blanks_drop]; omega
theorem skipN_blanks : ∀ (m : Nat) (L : List Nat), skipN false (List.replicate m 32 ++ L) = m + skipN false L
  | 0, L => by simp
  | m + 1, L => by
    rw [List.replicate_succ, List.cons_append, skipN, if_pos (by decide), skipN_blanks m L]; omega
theorem blanks_start (m : Nat) (L : List Nat) : skipT (List.replicate m 32 ++ L) 0 = m + skipT L 0 := by
  unfold skipT
  rw [List.drop_zero, List.drop_zero, skipN_blanks]; omega
theorem blanks_scan (m : Nat) (L : List Nat) : ∀ f i, scanF (List.replicate m 32 ++ L) f (m + i) = ((scanF L f i).1.map (fun x => (x.1, m + x.2.1, x.2.2.1, x.2.2.2)), (scanF L f i).2.map (m + ·))
  | 0, i => by simp [scanF]
  | f + 1, i => by
    have hl : (List.replicate m 32 ++ L).length = m + L.length := by simp
    rw [scanF, scanF, blanks_drop, hl]
    by_cases hi : i < L.length
    · rw [if_pos (by omega), if_pos hi]
      by_cases h0 : (firstT (L.drop i)).1 = 0
      · rw [if_pos h0, if_pos h0]; rfl
      · rw [if_neg h0, if_neg h0]
        rw [show m + i + (firstT (L.drop i)).2.1 = m + (i + (firstT (L.drop i)).2.1) by omega, blanks_skip, blanks_scan m L f _]
        rfl
    · rw [if_neg (by omega), if_neg hi]; rfl
theorem strB_append (a b : ByteArray) : strB (a ++ b) = strB a ++ strB b := by
  unfold strB
  rw [ByteArray.data_append, Array.toList_append, List.map_append]
theorem strB_rep (c : Nat) : strB (repB 32 c) = List.replicate c 32 := by
  unfold strB repB
  simp
/-- Blanks ahead of a source change nothing but places. -/
theorem scan_blanks (t : ByteArray) (m : Nat) (h : m + t.size ≤ 8000) : (scanS (repB 32 m ++ t)).2.2 = (scanS t).2.2 ∧ (scanS (repB 32 m ++ t)).1.map zT = (scanS t).1.map zT := by
  have hsz : (repB 32 m ++ t).size = m + t.size := by rw [ByteArray.size_append, repB_size]
  have hs : strB (repB 32 m ++ t) = List.replicate m 32 ++ strB t := by rw [strB_append, strB_rep]
  have hL : scanL (repB 32 m ++ t) = ((scanL t).1.map (fun x => (x.1, m + x.2.1, x.2.2.1, x.2.2.2)), (scanL t).2.map (m + ·)) := by
    unfold scanL
    rw [hs, blanks_start, hsz]
    rw [blanks_scan m (strB t) (m + t.size + 1)]
    have hsk := skipT_le (strB t) 0 (Nat.zero_le _)
    rw [scanF_fuel (strB t) (m + t.size + 1) (t.size + 1) _ (by rw [strB_len]; omega) (by rw [strB_len]; omega)]
  have h1 : ¬ 8000 < (repB 32 m ++ t).size := by omega
  have h2 : ¬ 8000 < t.size := by omega
  cases hq : (scanL t).2 with
  | some i =>
    rw [scanS_bad (i := m + i) h1 (by rw [hL, hq]; rfl), scanS_bad h2 hq]
    exact ⟨rfl, rfl⟩
  | none =>
    rw [scanS_ok h1 (by rw [hL, hq]; rfl), scanS_ok h2 hq]
    refine ⟨rfl, ?_⟩
    simp only [List.map_append, List.map_cons, List.map_nil]
    congr 1
    rw [hL]
    simp only [List.map_map]
    refine List.map_congr_left fun x _ => ?_
    show zT (tokOf (repB 32 m ++ t) (x.1, m + x.2.1, x.2.2.1, x.2.2.2)) = zT (tokOf t x)
    rw [zT_tokOf, zT_tokOf, hs, blanks_drop]
end Go.Proofs.YthkjcgcfbodgbaaDoor
