import Derived.Test.YtjglnpijngdpkaaGreatDoorGP
import Derived.Test.YtjglnpijngdpkaaGreatDoorProg
import Derived.Test.YtjglnpijngdpkaaGreatDoorRows
import Derived.Shelf.Strings.Cut
import Derived.Shelf.Strings.Search3
import Derived.Shelf.Strconv.AtoiAll
import Derived.Lib.CutLaws
import Derived.Lib.AppendIntMem
import Derived.Deep.Cut
import Derived.Deep.CutRange
/-
  The library's strings.Index, strings.Cut, strconv.Atoi laid at this seat's program; what the walks of days ask of its variables.
-/
namespace Go.Proofs.YtjglnpijngdpkaaGreatDoor
open Go.RowKit Go.Shelf
set_option linter.unusedSimpArgs false
set_option linter.unusedVariables false
set_option maxRecDepth 100000

def laysIdxD_ren : Go.Shelf.Ren := ⟨fun | 143 => 82 | 217 => 119 | 219 => 103 | 224 => 121 | 225 => 120 | 266 => 135 | 267 => 122 | 314 => 136 | n => n, fun | 3 => 3 | 4 => 4 | 5 => 5 | 9 => 9 | 46 => 111 | 51 => 139 | 146 => 183 | n => n, fun | 1 => 2 | n => n⟩
theorem laysIdxD : Go.Proofs.Lays.n143 Tryz.prog laysIdxD_ren := {
  mixed := by kernel_rfl
  f143 := Tryz.func82.trans (congrArg some (by kernel_rfl))
  f217 := Tryz.func119.trans (congrArg some (by kernel_rfl))
  f219 := Tryz.func103.trans (congrArg some (by kernel_rfl))
  f224 := Tryz.func121.trans (congrArg some (by kernel_rfl))
  f225 := Tryz.func120.trans (congrArg some (by kernel_rfl))
  f266 := Tryz.func135.trans (congrArg some (by kernel_rfl))
  f267 := Tryz.func122.trans (congrArg some (by kernel_rfl))
  f314 := Tryz.func136.trans (congrArg some (by kernel_rfl))
  t3 := Tryz.underlying3
  a3 := Tryz.isAgg3
  z3 := Tryz.sizeOf3
  v3 := Tryz.zeroValue3
  t4 := Tryz.underlying4
  a4 := Tryz.isAgg4
  z4 := Tryz.sizeOf4
  v4 := Tryz.zeroValue4
  t5 := Tryz.underlying5
  a5 := Tryz.isAgg5
  z5 := Tryz.sizeOf5
  v5 := Tryz.zeroValue5
  t9 := Tryz.underlying9
  a9 := Tryz.isAgg9
  z9 := Tryz.sizeOf9
  v9 := Tryz.zeroValue9
  t46 := Tryz.underlying111
  a46 := Tryz.isAgg111
  z46 := Tryz.sizeOf111
  v46 := Tryz.zeroValue111
  t51 := Tryz.underlying139
  a51 := Tryz.isAgg139
  z51 := Tryz.sizeOf139
  v51 := Tryz.zeroValue139
  t146 := Tryz.underlying183
  a146 := Tryz.isAgg183
  z146 := Tryz.sizeOf183
  v146 := Tryz.zeroValue183
  g1 := by kernel_rfl }

def laysCutB_ren : Go.Shelf.Ren := ⟨fun | 217 => 119 | 219 => 103 | 220 => 83 | 224 => 121 | 225 => 120 | 266 => 135 | 267 => 122 | 314 => 136 | n => n, fun | 3 => 3 | 4 => 4 | 5 => 5 | 9 => 9 | 46 => 111 | 51 => 139 | 146 => 183 | n => n, fun | 1 => 2 | n => n⟩
theorem laysCutB : Go.Proofs.Lays.n220 Tryz.prog laysCutB_ren := {
  mixed := by kernel_rfl
  f217 := Tryz.func119.trans (congrArg some (by kernel_rfl))
  f219 := Tryz.func103.trans (congrArg some (by kernel_rfl))
  f220 := Tryz.func83.trans (congrArg some (by kernel_rfl))
  f224 := Tryz.func121.trans (congrArg some (by kernel_rfl))
  f225 := Tryz.func120.trans (congrArg some (by kernel_rfl))
  f266 := Tryz.func135.trans (congrArg some (by kernel_rfl))
  f267 := Tryz.func122.trans (congrArg some (by kernel_rfl))
  f314 := Tryz.func136.trans (congrArg some (by kernel_rfl))
  t3 := Tryz.underlying3
  a3 := Tryz.isAgg3
  z3 := Tryz.sizeOf3
  v3 := Tryz.zeroValue3
  t4 := Tryz.underlying4
  a4 := Tryz.isAgg4
  z4 := Tryz.sizeOf4
  v4 := Tryz.zeroValue4
  t5 := Tryz.underlying5
  a5 := Tryz.isAgg5
  z5 := Tryz.sizeOf5
  v5 := Tryz.zeroValue5
  t9 := Tryz.underlying9
  a9 := Tryz.isAgg9
  z9 := Tryz.sizeOf9
  v9 := Tryz.zeroValue9
  t46 := Tryz.underlying111
  a46 := Tryz.isAgg111
  z46 := Tryz.sizeOf111
  v46 := Tryz.zeroValue111
  t51 := Tryz.underlying139
  a51 := Tryz.isAgg139
  z51 := Tryz.sizeOf139
  v51 := Tryz.zeroValue139
  t146 := Tryz.underlying183
  a146 := Tryz.isAgg183
  z146 := Tryz.sizeOf183
  v146 := Tryz.zeroValue183
  g1 := by kernel_rfl }

def laysAtoi_ren : Go.Shelf.Ren := ⟨fun | 129 => 43 | 171 => 126 | 172 => 64 | 205 => 125 | 243 => 139 | 244 => 84 | 245 => 85 | 246 => 143 | 247 => 104 | 279 => 105 | 280 => 106 | 281 => 107 | 282 => 108 | 283 => 115 | 284 => 116 | 285 => 117 | 286 => 118 | 287 => 123 | 316 => 124 | 317 => 131 | 318 => 132 | 319 => 133 | 320 => 134 | 321 => 137 | 322 => 138 | 337 => 141 | 338 => 142 | n => n, fun | 0 => 0 | 2 => 2 | 3 => 3 | 4 => 4 | 5 => 5 | 9 => 9 | 20 => 20 | 21 => 21 | 37 => 52 | 46 => 111 | 51 => 139 | 53 => 45 | 75 => 107 | 76 => 108 | 80 => 30 | 85 => 146 | 127 => 186 | 143 => 187 | 145 => 189 | 167 => 145 | 168 => 148 | 171 => 158 | 173 => 160 | 175 => 167 | 210 => 171 | 212 => 181 | 213 => 182 | 232 => 58 | 233 => 194 | n => n, fun | 15 => 3 | 16 => 4 | 17 => 6 | 18 => 9 | 19 => 10 | n => n⟩
theorem laysAtoi : Go.Proofs.LaysC.n172 Tryz.prog laysAtoi_ren := {
  mixed := by kernel_rfl
  f129 := Tryz.func43.trans (congrArg some (by kernel_rfl))
  f171 := Tryz.func126.trans (congrArg some (by kernel_rfl))
  f172 := Tryz.func64.trans (congrArg some (by kernel_rfl))
  f205 := Tryz.func125.trans (congrArg some (by kernel_rfl))
  f243 := Tryz.func139.trans (congrArg some (by kernel_rfl))
  f244 := Tryz.func84.trans (congrArg some (by kernel_rfl))
  f245 := Tryz.func85.trans (congrArg some (by kernel_rfl))
  f246 := Tryz.func143.trans (congrArg some (by kernel_rfl))
  f247 := Tryz.func104.trans (congrArg some (by kernel_rfl))
  f279 := Tryz.func105.trans (congrArg some (by kernel_rfl))
  f280 := Tryz.func106.trans (congrArg some (by kernel_rfl))
  f281 := Tryz.func107.trans (congrArg some (by kernel_rfl))
  f282 := Tryz.func108.trans (congrArg some (by kernel_rfl))
  f283 := Tryz.func115.trans (congrArg some (by kernel_rfl))
  f284 := Tryz.func116.trans (congrArg some (by kernel_rfl))
  f285 := Tryz.func117.trans (congrArg some (by kernel_rfl))
  f286 := Tryz.func118.trans (congrArg some (by kernel_rfl))
  f287 := Tryz.func123.trans (congrArg some (by kernel_rfl))
  f316 := Tryz.func124.trans (congrArg some (by kernel_rfl))
  f317 := Tryz.func131.trans (congrArg some (by kernel_rfl))
  f318 := Tryz.func132.trans (congrArg some (by kernel_rfl))
  f319 := Tryz.func133.trans (congrArg some (by kernel_rfl))
  f320 := Tryz.func134.trans (congrArg some (by kernel_rfl))
  f321 := Tryz.func137.trans (congrArg some (by kernel_rfl))
  f322 := Tryz.func138.trans (congrArg some (by kernel_rfl))
  f337 := Tryz.func141.trans (congrArg some (by kernel_rfl))
  f338 := Tryz.func142.trans (congrArg some (by kernel_rfl))
  t0 := Tryz.underlying0
  a0 := Tryz.isAgg0
  z0 := Tryz.sizeOf0
  v0 := Tryz.zeroValue0
  t2 := Tryz.underlying2
  a2 := Tryz.isAgg2
  z2 := Tryz.sizeOf2
  v2 := Tryz.zeroValue2
  t3 := Tryz.underlying3
  a3 := Tryz.isAgg3
  z3 := Tryz.sizeOf3
  v3 := Tryz.zeroValue3
  t4 := Tryz.underlying4
  a4 := Tryz.isAgg4
  z4 := Tryz.sizeOf4
  v4 := Tryz.zeroValue4
  t5 := Tryz.underlying5
  a5 := Tryz.isAgg5
  z5 := Tryz.sizeOf5
  v5 := Tryz.zeroValue5
  t9 := Tryz.underlying9
  a9 := Tryz.isAgg9
  z9 := Tryz.sizeOf9
  v9 := Tryz.zeroValue9
  t20 := Tryz.underlying20
  a20 := Tryz.isAgg20
  z20 := Tryz.sizeOf20
  v20 := Tryz.zeroValue20
  t21 := Tryz.underlying21
  a21 := Tryz.isAgg21
  z21 := Tryz.sizeOf21
  v21 := Tryz.zeroValue21
  t37 := Tryz.underlying52
  a37 := Tryz.isAgg52
  z37 := Tryz.sizeOf52
  v37 := Tryz.zeroValue52
  t46 := Tryz.underlying111
  a46 := Tryz.isAgg111
  z46 := Tryz.sizeOf111
  v46 := Tryz.zeroValue111
  t51 := Tryz.underlying139
  a51 := Tryz.isAgg139
  z51 := Tryz.sizeOf139
  v51 := Tryz.zeroValue139
  t53 := Tryz.underlying45
  a53 := Tryz.isAgg45
  z53 := Tryz.sizeOf45
  v53 := Tryz.zeroValue45
  t75 := Tryz.underlying107
  a75 := Tryz.isAgg107
  z75 := Tryz.sizeOf107
  v75 := Tryz.zeroValue107
  t76 := Tryz.underlying108
  a76 := Tryz.isAgg108
  z76 := Tryz.sizeOf108
  v76 := Tryz.zeroValue108
  t85 := Tryz.underlying146
  a85 := Tryz.isAgg146
  z85 := Tryz.sizeOf146
  v85 := Tryz.zeroValue146
  t127 := Tryz.underlying186
  a127 := Tryz.isAgg186
  z127 := Tryz.sizeOf186
  v127 := Tryz.zeroValue186
  t143 := Tryz.underlying187
  a143 := Tryz.isAgg187
  z143 := Tryz.sizeOf187
  v143 := Tryz.zeroValue187
  t145 := Tryz.underlying189
  a145 := Tryz.isAgg189
  z145 := Tryz.sizeOf189
  v145 := Tryz.zeroValue189
  t167 := Tryz.underlying145
  a167 := Tryz.isAgg145
  z167 := Tryz.sizeOf145
  v167 := Tryz.zeroValue145
  t168 := Tryz.underlying148
  a168 := Tryz.isAgg148
  z168 := Tryz.sizeOf148
  v168 := Tryz.zeroValue148
  t171 := Tryz.underlying158
  a171 := Tryz.isAgg158
  z171 := Tryz.sizeOf158
  v171 := Tryz.zeroValue158
  t173 := Tryz.underlying160
  a173 := Tryz.isAgg160
  z173 := Tryz.sizeOf160
  v173 := Tryz.zeroValue160
  t175 := Tryz.underlying167
  a175 := Tryz.isAgg167
  z175 := Tryz.sizeOf167
  v175 := Tryz.zeroValue167
  t210 := Tryz.underlying171
  a210 := Tryz.isAgg171
  z210 := Tryz.sizeOf171
  v210 := Tryz.zeroValue171
  t212 := Tryz.underlying181
  a212 := Tryz.isAgg181
  z212 := Tryz.sizeOf181
  v212 := Tryz.zeroValue181
  t213 := Tryz.underlying182
  a213 := Tryz.isAgg182
  z213 := Tryz.sizeOf182
  t232 := Tryz.underlying58
  a232 := Tryz.isAgg58
  z232 := Tryz.sizeOf58
  v232 := Tryz.zeroValue58
  t233 := Tryz.underlying194
  a233 := Tryz.isAgg194
  z233 := Tryz.sizeOf194
  v233 := Tryz.zeroValue194
  g15 := by kernel_rfl
  g16 := by kernel_rfl
  g17 := by kernel_rfl
  g18 := by kernel_rfl
  g19 := by kernel_rfl
  t80 := Tryz.underlying30
  a80 := Tryz.isAgg30
  z80 := Tryz.sizeOf30
  v80 := Tryz.zeroValue30
  i0 := by kernel_rfl
  i2 := by kernel_rfl
  i3 := by kernel_rfl
  i4 := by kernel_rfl
  i5 := by kernel_rfl
  i9 := by kernel_rfl
  i20 := by kernel_rfl
  i21 := by kernel_rfl
  i37 := by kernel_rfl
  i46 := by kernel_rfl
  i51 := by kernel_rfl
  i53 := by kernel_rfl
  i75 := by kernel_rfl
  i76 := by kernel_rfl
  i80 := by kernel_rfl
  i85 := by kernel_rfl
  i127 := by kernel_rfl
  i143 := by kernel_rfl
  i145 := by kernel_rfl
  i167 := by kernel_rfl
  i168 := by kernel_rfl
  i171 := by kernel_rfl
  i173 := by kernel_rfl
  i175 := by kernel_rfl
  i210 := by kernel_rfl
  i212 := by kernel_rfl
  i232 := by kernel_rfl
  i233 := by kernel_rfl
  m15 := by kernel_rfl
  m16 := by kernel_rfl
  m17 := by kernel_rfl
  m18 := by kernel_rfl
  m19 := by kernel_rfl
  c0 := by kernel_rfl
  c2 := by kernel_rfl
  c3 := by kernel_rfl
  c4 := by kernel_rfl
  c5 := by kernel_rfl
  c9 := by kernel_rfl
  c20 := by kernel_rfl
  c21 := by kernel_rfl
  c37 := by kernel_rfl
  c46 := by kernel_rfl
  c51 := by kernel_rfl
  c53 := by kernel_rfl
  c75 := by kernel_rfl
  c76 := by kernel_rfl
  c80 := by kernel_rfl
  c85 := by kernel_rfl
  c127 := by kernel_rfl
  c143 := by kernel_rfl
  c145 := by kernel_rfl
  c167 := by kernel_rfl
  c168 := by kernel_rfl
  c171 := by kernel_rfl
  c173 := by kernel_rfl
  c175 := by kernel_rfl
  c210 := by kernel_rfl
  c212 := by kernel_rfl
  c213 := by kernel_rfl
  c232 := by kernel_rfl
  c233 := by kernel_rfl }

/-- The library's variables that the texts of days want. -/
structure LibD (w : World) : Prop where
  pow : Lib.TabIs Tryz.prog w "internal/strconv.uint64pow10" .u64 Lib.pow10Tab
  esyn : ∃ ev, w.cell? ⟨3, 0, none⟩ = some ev ∧ (ev = .nilIface ∨ ∃ te pe, ev = .iface te pe)
  eran : ∃ ev, w.cell? ⟨4, 0, none⟩ = some ev ∧ (ev = .nilIface ∨ ∃ te pe, ev = .iface te pe)
theorem LibD.below {a b : World} (h : LibD a) (hb : Below a.heap.size a b) : LibD b := by
  have hc : ∀ {p : Addr} {v : Value}, a.cell? p = some v → b.cell? p = some v := fun h => (hb.cell (World.block_lt_of_cell? a _ h)).trans h
  refine ⟨(Lib.tabBelow_of_tabIs h.pow) b hb, ?_, ?_⟩
  · obtain ⟨ev, h1, h2⟩ := h.esyn
    exact ⟨ev, hc h1, h2⟩
  · obtain ⟨ev, h1, h2⟩ := h.eran
    exact ⟨ev, hc h1, h2⟩
theorem LibD.kept {a b : World} (h : LibD a) (hk : Kept (fun _ => False) a b) : LibD b := h.below (hk.below (Nat.le_refl _) (fun _ h => h.elim))
theorem LibD.tab {w : World} (h : LibD w) : Lib.TabBelow Tryz.prog w.heap.size w "internal/strconv.uint64pow10" .u64 Lib.pow10Tab := Lib.tabBelow_of_tabIs h.pow
/-- They lie below B. -/
def LibDB (B : Nat) (w : World) : Prop := ∀ w', Below B w w' → LibD w'
theorem LibD.toB {w : World} (h : LibD w) : LibDB w.heap.size w := fun _ hb => h.below hb
theorem LibDB.on {B : Nat} {a b : World} (h : LibDB B a) (hb : Below B a b) : LibDB B b := fun _ hb' => h _ (hb.trans hb')
theorem LibDB.at {B : Nat} {w : World} (h : LibDB B w) : LibD w := h w (Below.refl _ _)

/-- strconv.Atoi of a number. -/
theorem shd_Atoi_ok (s : ByteArray) (v : Int) (h : Lib.atoiAll s.data.toList = .ok v) (hs : s.size ≤ 1000000) (w : World) :
    Calls Tryz.prog 64 #[.string s] w fun e w' => e = .returned (.tuple #[.int .i64 v, .nilIface]) ∧ Kept (fun _ => False) w w' := by
  refine (Any.strconv_Atoi_ok laysAtoi s (by omega) v h w).mono ?_
  rintro e w' ⟨he, rfl | ⟨t, rfl⟩⟩
  · exact ⟨he, Kept.refl _ _⟩
  · exact ⟨he, Kept.ofBelow _ (Lib.bytesWorld_below w _ t)⟩
/-- Of anything else. -/
theorem shd_Atoi_no (s : ByteArray) (h : ∀ v, Lib.atoiAll s.data.toList ≠ .ok v) (hs : s.size ≤ 1000000) (w : World) (hL : LibD w) :
    Calls Tryz.prog 64 #[.string s] w fun e w' => (∃ (v : Int) (N : Nat), e = .returned (.tuple #[.int .i64 v, .iface 148 (.pointer (some ⟨N, 0, none⟩))])) ∧ Kept (fun _ => False) w w' := by
  rcases ha : Lib.atoiAll s.data.toList with v | _ | _
  · exact absurd ha (h v)
  · skip
    obtain ⟨ev, h1, h2⟩ := hL.esyn
    refine (Any.strconv_Atoi_syntax laysAtoi s (by omega) ha ev w h1 h2).mono ?_
    rintro e w' ⟨N, rfl, _, _, hb⟩
    exact ⟨⟨_, N, rfl⟩, Kept.ofBelow _ hb⟩
  · skip
    obtain ⟨ev, h1, h2⟩ := hL.eran
    refine (Any.strconv_Atoi_range laysAtoi s (by omega) ha ev w h1 h2).mono ?_
    rintro e w' ⟨N, rfl, _, _, hb⟩
    exact ⟨⟨_, N, rfl⟩, Kept.ofBelow _ hb⟩

theorem sh_IdxD (s : ByteArray) (c : UInt8) (w : World) : Calls Tryz.prog 82 #[.string s, .string ⟨#[c]⟩] w fun e w' => e = .returned (.int .i64 (Lib.indexByte s.data.toList c)) ∧ w = w' := by
  have h := Any.strings_Index_one laysIdxD s c w
  exact h.mono fun _ _ ⟨h1, h2⟩ => ⟨h1, h2.symm⟩

/-- What stands before the first dash, and behind it. -/
def cutP (s : ByteArray) : ByteArray := if Lib.indexByte s.data.toList 45 = -1 then s else s.extract 0 (Lib.indexByte s.data.toList 45).toNat
def cutQ (s : ByteArray) : ByteArray := if Lib.indexByte s.data.toList 45 = -1 then ⟨#[]⟩ else s.extract ((Lib.indexByte s.data.toList 45).toNat + 1) s.size
def cutO (s : ByteArray) : Bool := decide (Lib.indexByte s.data.toList 45 ≠ -1)
theorem index_oneD (l : List UInt8) (c : UInt8) : Lib.index l [c] = Lib.indexByte l c := by
  induction l with
  | nil => simp [Lib.index, Lib.indexByte]
  | cons b l ih =>
    unfold Lib.index Lib.indexByte
    rw [ih]
    by_cases h : b = c
    · subst h; simp [List.isPrefixOf]
    · simp [List.isPrefixOf, h, Ne.symm h]
theorem indexB_oneD (x : ByteArray) (c : UInt8) : Lib.indexB x ⟨#[c]⟩ = Lib.indexByte x.data.toList c := index_oneD _ _

set_option maxHeartbeats 1600000 in
theorem scut_dash (s : ByteArray) (hs : s.size ≤ 1000000) (w : World) : Calls Tryz.prog 83 #[.string s, .string ⟨#[45]⟩] w fun e w' =>
    e = .returned (.tuple #[.string (cutP s), .string (cutQ s), .bool (cutO s)]) ∧ Kept (fun _ => False) w w' := by
  have hI := fun W => Any.stringslite_Index_one { laysCutB with } s 45 W
  unfold cutP cutQ cutO
  rcases Lib.indexB_cases s ⟨#[45]⟩ with hix | ⟨i, hix, hroom⟩
  · rw [indexB_oneD] at hix
    rw [hix] at hI
    rw [if_pos hix, if_pos hix, hix]
    have HI := Lib.hid hI
    clear hI hix hs
    go_enter Tryz.func83, Tryz.ntmps83
    go_wp2_with fail
    refine (HI.out _).mono ?_
    rintro e w' ⟨rfl, rfl⟩
    go_wp2_with fail
    go_ret3
    exact ⟨rfl, Kept.refl _ _⟩
  · rw [indexB_oneD] at hix
    rw [hix] at hI
    rw [if_neg (by rw [hix]; omega), if_neg (by rw [hix]; omega), hix, decide_eq_true (show (i : Int) ≠ -1 by omega)]
    have hroom' : i + 1 ≤ s.size := hroom
    have HI := Lib.hid hI
    have mixed : Tryz.prog.follows .mixedOrders = true := by kernel_rfl
    have c1 : (0 : Int) ≤ ↑i := by omega
    have c2 : (↑i : Int) ≤ ↑s.size := by omega
    have c3 : (0 : Int) ≤ ↑i + 1 := by omega
    have c4 : (↑i + 1 : Int) ≤ ↑s.size := by omega
    have c5 : ((i : Int)).toNat = i := by omega
    rw [c5]
    clear hI hix hroom c5
    go_enter Tryz.func83, Tryz.ntmps83
    go_wp2_with fail
    refine (HI.out _).mono ?_
    rintro e w' ⟨rfl, rfl⟩
    go_wp2_with fail
    go_region_o
    go_wp2_with fail
    go_ret3
    exact ⟨rfl, (Kept.refl _ _).drew⟩
theorem cut_dash (s : ByteArray) (hs : s.size ≤ 1000000) (w : World) : Calls Tryz.prog 63 #[.string s, .string ⟨#[45]⟩] w fun e w' =>
    e = .returned (.tuple #[.string (cutP s), .string (cutQ s), .bool (cutO s)]) ∧ Kept (fun _ => False) w w' := by
  have HC := Lib.hid (scut_dash s hs)
  generalize cutP s = y at HC ⊢
  generalize cutQ s = z at HC ⊢
  generalize cutO s = o at HC ⊢
  go_enter Tryz.func63, Tryz.ntmps63
  go_wp2_with fail
  refine (HC.out _).mono ?_
  rintro e w' ⟨rfl, hk⟩
  have HK := Lib.hid hk
  clear hk
  go_wp2_with fail
  go_ret3
  exact ⟨rfl, HK.out⟩

theorem extract_front (s : ByteArray) (o : Nat) : (s.extract 0 o).data.toList = s.data.toList.take o := by
  rw [ByteArray.data_extract, Array.toList_extract]; simp [List.extract]
theorem extract_back (s : ByteArray) (o : Nat) : (s.extract o s.size).data.toList = s.data.toList.drop o := by
  rw [ByteArray.data_extract, Array.toList_extract]
  simp only [List.extract]
  refine List.take_of_length_le ?_
  rw [List.length_drop]
  exact Nat.le_refl _
theorem cutP_size (s : ByteArray) : (cutP s).size ≤ s.size := by
  unfold cutP
  split
  · exact Nat.le_refl _
  · rw [ByteArray.size_extract]; omega
theorem cutQ_size (s : ByteArray) : (cutQ s).size ≤ s.size := by
  unfold cutQ
  split
  · exact Nat.zero_le _
  · rw [ByteArray.size_extract]; omega
theorem spanV_cut (s : ByteArray) : spanV s.data.toList = (match Lib.atoiAll (cutP s).data.toList with
    | .ok a => if cutO s = true then (if (cutQ s).size = 0 then some (a, 30000) else (match Lib.atoiAll (cutQ s).data.toList with | .ok b => some (a, b) | _ => none)) else some (a, a)
    | _ => none) := by
  unfold spanV cutP cutQ cutO
  by_cases h : Lib.indexByte s.data.toList 45 = -1
  · have hd : decide (Lib.indexByte s.data.toList 45 ≠ -1) = false := decide_eq_false (fun e => e h)
    rw [if_pos h, if_pos h, hd]
    cases Lib.atoiAll s.data.toList <;> rfl
  · have hd : decide (Lib.indexByte s.data.toList 45 ≠ -1) = true := decide_eq_true h
    rw [if_neg h, if_neg h, if_neg h, hd]
    have hg := Lib.indexByte_ge s.data.toList 45
    obtain ⟨o, ho⟩ : ∃ o : Nat, Lib.indexByte s.data.toList 45 = (o : Int) := ⟨(Lib.indexByte s.data.toList 45).toNat, by omega⟩
    obtain ⟨h1, _, _⟩ := index_cut ho
    rw [ho]
    have hlen : s.data.toList.length = s.size := rfl
    have e0 : ((o : Int)).toNat = o := by omega
    rw [e0]
    have e1 : (s.extract 0 o).data.toList = s.data.toList.take o := extract_front s o
    have e2 : (s.extract (o + 1) s.size).data.toList = s.data.toList.drop (o + 1) := extract_back s (o + 1)
    have e3 : (s.extract (o + 1) s.size).size = 0 ↔ s.data.toList.drop (o + 1) = [] := by
      rw [← e2, ← List.length_eq_zero_iff]; exact Iff.rfl
    rw [e1, e2]
    by_cases h5 : s.data.toList.drop (o + 1) = []
    · have h6 := e3.2 h5
      cases Lib.atoiAll (s.data.toList.take o) <;> simp [h5, h6]
    · have h6 : ¬ (s.extract (o + 1) s.size).size = 0 := fun h => h5 (e3.1 h)
      have h7 : ¬ s.size - (o + 1) = 0 := fun e => h6 (by rw [ByteArray.size_extract]; omega)
      cases Lib.atoiAll (s.data.toList.take o) <;> simp [h5, h7] <;> rfl
end Go.Proofs.YtjglnpijngdpkaaGreatDoor
