/- The first texts of this claim, one behind the other. -/
import Derived.Test.YtkgpnnegjhnjdaaDoorBLo
import Derived.Test.YtkgpnnegjhnjdaaDoorBAw
import Derived.Test.YtkgpnnegjhnjdaaDoorBBx
import Derived.Deep.RegionHeld3
import Derived.Test.YtkgpnnegjhnjdaaDoorArgIn
import Derived.Test.YtkgpnnegjhnjdaaDoorOf
import Derived.OpenShut
import Derived.Lib.SmallJoins
/-
  arbaclaw01.BitsLaws: conjunct 11 of its region. Made by mk_bl3.py.
-/
namespace Go.Proofs.YtkgpnnegjhnjdaaDoor
open Go.RowKit
set_option linter.unusedSimpArgs false
set_option linter.unusedVariables false

set_option maxRecDepth 100000 in
set_option maxHeartbeats 6400000 in
theorem blw_11 (w9 : World) (g7 g8 g9 la na ca lb nb cb lc nc cc A B C : Nat) (pa pb pc : Option Addr)
    (Ba : BoxAt w9 g7 la (.slice pa na ca)) (Bb : BoxAt w9 g8 lb (.slice pb nb cb)) (Bc : BoxAt w9 g9 lc (.slice pc nc cc))
    (Ha : SetV w9 (.agg #[.int .u64 (la : Int), .slice pa na ca]) A) (Hb : SetV w9 (.agg #[.int .u64 (lb : Int), .slice pb nb cb]) B) (Hc : SetV w9 (.agg #[.int .u64 (lc : Int), .slice pc nc cc]) C)
    (SA : Small A) (SB : Small B) (SC : Small C) (Q : Exit → Act → World → Prop) (hP : ∀ (c : _) (a : Act) (d : Option Tmp) (v : Value) (w : World), Q (.panic c) (a.put d v) w → Q (.panic c) a w) (hQ : ∀ (u0 u1 u2 u3 u4 u5 u7 u8 u9 u10 u11 u12 u13 u14 u15 u16 u17 u18 u19 u20 u21 u22 u23 u24 u25 u26 u27 u28 u29 u30 u31 u32 u33 u34 u35 u36 u37 u38 u39 u40 u41 u42 u43 u44 u45 u46 u47 u48 u49 u50 u51 u52 u53 u54 u55 u56 u57 u58 u59 u60 u61 u62 u63 u64 u65 u66 u67 u68 u69 u70 u71 u72 u73 u74 u75 u76 u77 u78 u79 u80 u81 u82 u83 u84 u85 u86 u87 u88 u89 u90 u91 u92 u93 u94 u95 u96 u97 u98 u99 u100 u101 u102 u103 u104 u105 u106 u107 u108 u109 u110 u111 u112 u113 u114 u115 u116 u117 u118 u119 u120 u121 u122 u123 u124 u125 u126 u127 u128 u129 u130 u131 u132 u133 u134 u135 u136 u137 u138 u139 u140 : Value) (W : World), Kept (fun _ => False) w9 W → Q .normal { tmps := List.toArray (u0 :: u1 :: u2 :: u3 :: u4 :: u5 :: .bool true :: u7 :: u8 :: u9 :: u10 :: u11 :: u12 :: u13 :: u14 :: u15 :: u16 :: u17 :: u18 :: u19 :: u20 :: u21 :: u22 :: u23 :: u24 :: u25 :: u26 :: u27 :: u28 :: u29 :: u30 :: u31 :: u32 :: u33 :: u34 :: u35 :: u36 :: u37 :: u38 :: u39 :: u40 :: u41 :: u42 :: u43 :: u44 :: u45 :: u46 :: u47 :: u48 :: u49 :: u50 :: u51 :: u52 :: u53 :: u54 :: u55 :: u56 :: u57 :: u58 :: u59 :: u60 :: u61 :: u62 :: u63 :: u64 :: u65 :: u66 :: u67 :: u68 :: u69 :: u70 :: u71 :: u72 :: u73 :: u74 :: u75 :: u76 :: u77 :: u78 :: u79 :: u80 :: u81 :: u82 :: u83 :: u84 :: u85 :: u86 :: u87 :: u88 :: u89 :: u90 :: u91 :: u92 :: u93 :: u94 :: u95 :: u96 :: u97 :: u98 :: u99 :: u100 :: u101 :: u102 :: u103 :: u104 :: u105 :: u106 :: u107 :: u108 :: u109 :: u110 :: u111 :: u112 :: u113 :: u114 :: u115 :: u116 :: u117 :: u118 :: u119 :: u120 :: u121 :: u122 :: u123 :: u124 :: u125 :: u126 :: u127 :: u128 :: u129 :: u130 :: u131 :: u132 :: u133 :: u134 :: u135 :: u136 :: u137 :: u138 :: u139 :: u140 :: []), defers := [] } W)
    (u0 u1 u2 u3 u4 u5 u6 u10 u11 u12 u13 u14 u15 u16 u17 u18 u19 u20 u21 u22 u23 u24 u25 u26 u27 u28 u29 u30 u31 u32 u33 u34 u35 u36 u37 u38 u39 u40 u41 u42 u43 u44 u45 u46 u47 u48 u49 u50 u51 u52 u53 u54 u55 u56 u57 u58 u59 u60 u61 u62 u63 u64 u65 u66 u67 u68 u69 u70 u71 u72 u73 u74 u75 u76 u77 u78 u79 u80 u81 u82 u83 u84 u85 u86 u87 u88 u89 u90 u91 u92 u93 u94 u95 u96 u97 u98 u99 u100 u101 u102 u103 u104 u105 u106 u107 u108 u109 u110 u111 u112 u113 u114 u115 u116 u117 u118 u119 u120 u121 u122 u123 u124 u125 u126 u127 u128 u129 u130 u131 u132 u133 u134 u135 u136 u137 u138 u139 : Value) (W0 : World) (h0 : Kept (fun _ => False) w9 W0) :
    wpAnyH Tryd.prog .any opsL Q (fun W => Kept (fun _ => False) w9 W) 1 (List.replicate 120 true ++ List.replicate 1 false).toArray { tmps := List.toArray (u0 :: u1 :: u2 :: u3 :: u4 :: u5 :: u6 :: .pointer (some ⟨g7, 0, none⟩) :: .pointer (some ⟨g8, 0, none⟩) :: .pointer (some ⟨g9, 0, none⟩) :: u10 :: u11 :: u12 :: u13 :: u14 :: u15 :: u16 :: u17 :: u18 :: u19 :: u20 :: u21 :: u22 :: u23 :: u24 :: u25 :: u26 :: u27 :: u28 :: u29 :: u30 :: u31 :: u32 :: u33 :: u34 :: u35 :: u36 :: u37 :: u38 :: u39 :: u40 :: u41 :: u42 :: u43 :: u44 :: u45 :: u46 :: u47 :: u48 :: u49 :: u50 :: u51 :: u52 :: u53 :: u54 :: u55 :: u56 :: u57 :: u58 :: u59 :: u60 :: u61 :: u62 :: u63 :: u64 :: u65 :: u66 :: u67 :: u68 :: u69 :: u70 :: u71 :: u72 :: u73 :: u74 :: u75 :: u76 :: u77 :: u78 :: u79 :: u80 :: u81 :: u82 :: u83 :: u84 :: u85 :: u86 :: u87 :: u88 :: u89 :: u90 :: u91 :: u92 :: u93 :: u94 :: u95 :: u96 :: u97 :: u98 :: u99 :: u100 :: u101 :: u102 :: u103 :: u104 :: u105 :: u106 :: u107 :: u108 :: u109 :: u110 :: u111 :: u112 :: u113 :: u114 :: u115 :: u116 :: u117 :: u118 :: u119 :: u120 :: u121 :: u122 :: u123 :: u124 :: u125 :: u126 :: u127 :: u128 :: u129 :: u130 :: u131 :: u132 :: u133 :: u134 :: u135 :: u136 :: u137 :: u138 :: u139 :: .bool true :: []), defers := [] } W0 := by
  refine wpAnyH_take (i := 120) (oi := { dst := some 6, op := Op.assign (Operand.tmp 140), type := 4, pos := "law.go:74", after := ([{ on := 119, ground := Ground.data }, { on := 118, ground := Ground.chain }, { on := 0, ground := Ground.phase }, { on := 1, ground := Ground.phase }, { on := 2, ground := Ground.phase }, { on := 3, ground := Ground.phase }, { on := 4, ground := Ground.phase }, { on := 5, ground := Ground.phase }, { on := 6, ground := Ground.phase }, { on := 7, ground := Ground.phase }, { on := 8, ground := Ground.phase }, { on := 9, ground := Ground.phase }, { on := 10, ground := Ground.phase }, { on := 11, ground := Ground.phase }, { on := 12, ground := Ground.phase }, { on := 13, ground := Ground.phase }, { on := 14, ground := Ground.phase }, { on := 15, ground := Ground.phase }, { on := 16, ground := Ground.phase }, { on := 17, ground := Ground.phase }, { on := 18, ground := Ground.phase }, { on := 19, ground := Ground.phase }, { on := 20, ground := Ground.phase }, { on := 21, ground := Ground.phase }, { on := 22, ground := Ground.phase }, { on := 23, ground := Ground.phase }, { on := 24, ground := Ground.phase }, { on := 25, ground := Ground.phase }, { on := 26, ground := Ground.phase }, { on := 27, ground := Ground.phase }, { on := 28, ground := Ground.phase }, { on := 29, ground := Ground.phase }, { on := 30, ground := Ground.phase }, { on := 31, ground := Ground.phase }, { on := 32, ground := Ground.phase }, { on := 33, ground := Ground.phase }, { on := 34, ground := Ground.phase }, { on := 35, ground := Ground.phase }, { on := 36, ground := Ground.phase }, { on := 37, ground := Ground.phase }, { on := 38, ground := Ground.phase }, { on := 39, ground := Ground.phase }, { on := 40, ground := Ground.phase }, { on := 41, ground := Ground.phase }, { on := 42, ground := Ground.phase }, { on := 43, ground := Ground.phase }, { on := 44, ground := Ground.phase }, { on := 45, ground := Ground.phase }, { on := 46, ground := Ground.phase }, { on := 47, ground := Ground.phase }, { on := 48, ground := Ground.phase }, { on := 49, ground := Ground.phase }, { on := 50, ground := Ground.phase }, { on := 51, ground := Ground.phase }, { on := 52, ground := Ground.phase }, { on := 53, ground := Ground.phase }, { on := 54, ground := Ground.phase }, { on := 55, ground := Ground.phase }, { on := 56, ground := Ground.phase }, { on := 57, ground := Ground.phase }, { on := 58, ground := Ground.phase }].append [{ on := 59, ground := Ground.phase }, { on := 60, ground := Ground.phase }, { on := 61, ground := Ground.phase }, { on := 62, ground := Ground.phase }, { on := 63, ground := Ground.phase }, { on := 64, ground := Ground.phase }, { on := 65, ground := Ground.phase }, { on := 66, ground := Ground.phase }, { on := 67, ground := Ground.phase }, { on := 68, ground := Ground.phase }, { on := 69, ground := Ground.phase }, { on := 70, ground := Ground.phase }, { on := 71, ground := Ground.phase }, { on := 72, ground := Ground.phase }, { on := 73, ground := Ground.phase }, { on := 74, ground := Ground.phase }, { on := 75, ground := Ground.phase }, { on := 76, ground := Ground.phase }, { on := 77, ground := Ground.phase }, { on := 78, ground := Ground.phase }, { on := 79, ground := Ground.phase }, { on := 80, ground := Ground.phase }, { on := 81, ground := Ground.phase }, { on := 82, ground := Ground.phase }, { on := 83, ground := Ground.phase }, { on := 84, ground := Ground.phase }, { on := 85, ground := Ground.phase }, { on := 86, ground := Ground.phase }, { on := 87, ground := Ground.phase }, { on := 88, ground := Ground.phase }, { on := 89, ground := Ground.phase }, { on := 90, ground := Ground.phase }, { on := 91, ground := Ground.phase }, { on := 92, ground := Ground.phase }, { on := 93, ground := Ground.phase }, { on := 94, ground := Ground.phase }, { on := 95, ground := Ground.phase }, { on := 96, ground := Ground.phase }, { on := 97, ground := Ground.phase }, { on := 98, ground := Ground.phase }, { on := 99, ground := Ground.phase }, { on := 100, ground := Ground.phase }, { on := 101, ground := Ground.phase }, { on := 102, ground := Ground.phase }, { on := 103, ground := Ground.phase }, { on := 104, ground := Ground.phase }, { on := 105, ground := Ground.phase }, { on := 106, ground := Ground.phase }, { on := 107, ground := Ground.phase }, { on := 108, ground := Ground.phase }, { on := 109, ground := Ground.phase }, { on := 110, ground := Ground.phase }, { on := 111, ground := Ground.phase }, { on := 112, ground := Ground.phase }, { on := 113, ground := Ground.phase }, { on := 114, ground := Ground.phase }, { on := 115, ground := Ground.phase }, { on := 116, ground := Ground.phase }, { on := 117, ground := Ground.phase }, { on := 118, ground := Ground.phase }, { on := 119, ground := Ground.phase }]).toArray, guard := none }) (v := .bool true) rfl (by kernel_rfl) (by kernel_rfl) (by kernel_rfl) (fun _ _ _ h => hP _ _ _ _ _ h) (Or.inl ⟨by kernel_rfl, fun W hW => by go_simp⟩) h0 ?_
  try (simp only [Act.put, List.getElem_toArray, List.getElem_cons_succ, List.getElem_cons_zero, List.setIfInBounds_toArray, List.set_cons_zero, List.set_cons_succ])
  refine wpAnyH_done (by kernel_rfl) ?_ _
  exact hQ _ _ _ _ _ _ _ _ _ _ _ _ _ _ _ _ _ _ _ _ _ _ _ _ _ _ _ _ _ _ _ _ _ _ _ _ _ _ _ _ _ _ _ _ _ _ _ _ _ _ _ _ _ _ _ _ _ _ _ _ _ _ _ _ _ _ _ _ _ _ _ _ _ _ _ _ _ _ _ _ _ _ _ _ _ _ _ _ _ _ _ _ _ _ _ _ _ _ _ _ _ _ _ _ _ _ _ _ _ _ _ _ _ _ _ _ _ _ _ _ _ _ _ _ _ _ _ _ _ _ _ _ _ _ _ _ _ _ _ _ _ h0
end Go.Proofs.YtkgpnnegjhnjdaaDoor
/-
  arbaclaw01.BitsLaws: conjunct 10 of its region. Made by mk_bl3.py.
-/
namespace Go.Proofs.YtkgpnnegjhnjdaaDoor
open Go.RowKit
set_option linter.unusedSimpArgs false
set_option linter.unusedVariables false

set_option maxRecDepth 100000 in
set_option maxHeartbeats 6400000 in
theorem blw_10 (w9 : World) (g7 g8 g9 la na ca lb nb cb lc nc cc A B C : Nat) (pa pb pc : Option Addr)
    (Ba : BoxAt w9 g7 la (.slice pa na ca)) (Bb : BoxAt w9 g8 lb (.slice pb nb cb)) (Bc : BoxAt w9 g9 lc (.slice pc nc cc))
    (Ha : SetV w9 (.agg #[.int .u64 (la : Int), .slice pa na ca]) A) (Hb : SetV w9 (.agg #[.int .u64 (lb : Int), .slice pb nb cb]) B) (Hc : SetV w9 (.agg #[.int .u64 (lc : Int), .slice pc nc cc]) C)
    (SA : Small A) (SB : Small B) (SC : Small C) (Q : Exit → Act → World → Prop) (hP : ∀ (c : _) (a : Act) (d : Option Tmp) (v : Value) (w : World), Q (.panic c) (a.put d v) w → Q (.panic c) a w) (hQ : ∀ (u0 u1 u2 u3 u4 u5 u7 u8 u9 u10 u11 u12 u13 u14 u15 u16 u17 u18 u19 u20 u21 u22 u23 u24 u25 u26 u27 u28 u29 u30 u31 u32 u33 u34 u35 u36 u37 u38 u39 u40 u41 u42 u43 u44 u45 u46 u47 u48 u49 u50 u51 u52 u53 u54 u55 u56 u57 u58 u59 u60 u61 u62 u63 u64 u65 u66 u67 u68 u69 u70 u71 u72 u73 u74 u75 u76 u77 u78 u79 u80 u81 u82 u83 u84 u85 u86 u87 u88 u89 u90 u91 u92 u93 u94 u95 u96 u97 u98 u99 u100 u101 u102 u103 u104 u105 u106 u107 u108 u109 u110 u111 u112 u113 u114 u115 u116 u117 u118 u119 u120 u121 u122 u123 u124 u125 u126 u127 u128 u129 u130 u131 u132 u133 u134 u135 u136 u137 u138 u139 u140 : Value) (W : World), Kept (fun _ => False) w9 W → Q .normal { tmps := List.toArray (u0 :: u1 :: u2 :: u3 :: u4 :: u5 :: .bool true :: u7 :: u8 :: u9 :: u10 :: u11 :: u12 :: u13 :: u14 :: u15 :: u16 :: u17 :: u18 :: u19 :: u20 :: u21 :: u22 :: u23 :: u24 :: u25 :: u26 :: u27 :: u28 :: u29 :: u30 :: u31 :: u32 :: u33 :: u34 :: u35 :: u36 :: u37 :: u38 :: u39 :: u40 :: u41 :: u42 :: u43 :: u44 :: u45 :: u46 :: u47 :: u48 :: u49 :: u50 :: u51 :: u52 :: u53 :: u54 :: u55 :: u56 :: u57 :: u58 :: u59 :: u60 :: u61 :: u62 :: u63 :: u64 :: u65 :: u66 :: u67 :: u68 :: u69 :: u70 :: u71 :: u72 :: u73 :: u74 :: u75 :: u76 :: u77 :: u78 :: u79 :: u80 :: u81 :: u82 :: u83 :: u84 :: u85 :: u86 :: u87 :: u88 :: u89 :: u90 :: u91 :: u92 :: u93 :: u94 :: u95 :: u96 :: u97 :: u98 :: u99 :: u100 :: u101 :: u102 :: u103 :: u104 :: u105 :: u106 :: u107 :: u108 :: u109 :: u110 :: u111 :: u112 :: u113 :: u114 :: u115 :: u116 :: u117 :: u118 :: u119 :: u120 :: u121 :: u122 :: u123 :: u124 :: u125 :: u126 :: u127 :: u128 :: u129 :: u130 :: u131 :: u132 :: u133 :: u134 :: u135 :: u136 :: u137 :: u138 :: u139 :: u140 :: []), defers := [] } W)
    (u0 u1 u2 u3 u4 u5 u6 u10 u11 u12 u13 u14 u15 u16 u17 u18 u19 u20 u21 u22 u23 u24 u25 u26 u27 u28 u29 u30 u31 u32 u33 u34 u35 u36 u37 u38 u39 u40 u41 u42 u43 u44 u45 u46 u47 u48 u49 u50 u51 u52 u53 u54 u55 u56 u57 u58 u59 u60 u61 u62 u63 u64 u65 u66 u67 u68 u69 u70 u71 u72 u73 u74 u75 u76 u77 u78 u79 u80 u81 u82 u83 u84 u85 u86 u87 u88 u89 u90 u91 u92 u93 u94 u95 u96 u97 u98 u99 u100 u101 u102 u103 u104 u105 u106 u107 u108 u109 u110 u111 u112 u113 u114 u115 u116 u117 u118 u119 u120 u121 u122 u123 u124 u125 u126 u127 u128 u129 u130 u132 u133 u134 u135 u136 u137 u138 u139 u140 : Value) (W0 : World) (h0 : Kept (fun _ => False) w9 W0) :
    wpAnyH Tryd.prog .any opsL Q (fun W => Kept (fun _ => False) w9 W) 10 (List.replicate 111 true ++ List.replicate 10 false).toArray { tmps := List.toArray (u0 :: u1 :: u2 :: u3 :: u4 :: u5 :: u6 :: .pointer (some ⟨g7, 0, none⟩) :: .pointer (some ⟨g8, 0, none⟩) :: .pointer (some ⟨g9, 0, none⟩) :: u10 :: u11 :: u12 :: u13 :: u14 :: u15 :: u16 :: u17 :: u18 :: u19 :: u20 :: u21 :: u22 :: u23 :: u24 :: u25 :: u26 :: u27 :: u28 :: u29 :: u30 :: u31 :: u32 :: u33 :: u34 :: u35 :: u36 :: u37 :: u38 :: u39 :: u40 :: u41 :: u42 :: u43 :: u44 :: u45 :: u46 :: u47 :: u48 :: u49 :: u50 :: u51 :: u52 :: u53 :: u54 :: u55 :: u56 :: u57 :: u58 :: u59 :: u60 :: u61 :: u62 :: u63 :: u64 :: u65 :: u66 :: u67 :: u68 :: u69 :: u70 :: u71 :: u72 :: u73 :: u74 :: u75 :: u76 :: u77 :: u78 :: u79 :: u80 :: u81 :: u82 :: u83 :: u84 :: u85 :: u86 :: u87 :: u88 :: u89 :: u90 :: u91 :: u92 :: u93 :: u94 :: u95 :: u96 :: u97 :: u98 :: u99 :: u100 :: u101 :: u102 :: u103 :: u104 :: u105 :: u106 :: u107 :: u108 :: u109 :: u110 :: u111 :: u112 :: u113 :: u114 :: u115 :: u116 :: u117 :: u118 :: u119 :: u120 :: u121 :: u122 :: u123 :: u124 :: u125 :: u126 :: u127 :: u128 :: u129 :: u130 :: .bool true :: u132 :: u133 :: u134 :: u135 :: u136 :: u137 :: u138 :: u139 :: u140 :: []), defers := [] } W0 := by
  refine wpAnyH_take (i := 111) (oi := { dst := some 132, op := Op.move (Operand.tmp 131), type := 4, pos := "law.go:74", after := #[{ on := 110, ground := Ground.data }, { on := 109, ground := Ground.chain }], guard := none }) (v := .bool true) rfl (by kernel_rfl) (by kernel_rfl) (by kernel_rfl) (fun _ _ _ h => hP _ _ _ _ _ h) (Or.inl ⟨by kernel_rfl, fun W hW => by go_simp⟩) h0 ?_
  try (simp only [Act.put, List.getElem_toArray, List.getElem_cons_succ, List.getElem_cons_zero, List.setIfInBounds_toArray, List.set_cons_zero, List.set_cons_succ])
  refine wpAnyH_take (i := 112) (oi := { dst := some 133, op := Op.load 27 (Operand.tmp 7), type := 27, pos := "law.go:74", after := #[{ on := 111, ground := Ground.guard }], guard := some (111, true) }) (v := .agg #[.int .u64 (la : Int), .slice pa na ca]) rfl (by kernel_rfl) (by kernel_rfl) (by kernel_rfl) (fun _ _ _ h => hP _ _ _ _ _ h) (Or.inl ⟨by kernel_rfl, fun W hW => by have q0 := (Ba.onC hW).c0; have q1 := (Ba.onC hW).c1; go_simp⟩) h0 ?_
  try (simp only [Act.put, List.getElem_toArray, List.getElem_cons_succ, List.getElem_cons_zero, List.setIfInBounds_toArray, List.set_cons_zero, List.set_cons_succ])
  refine wpAnyH_take (i := 113) (oi := { dst := some 134, op := Op.load 27 (Operand.tmp 7), type := 27, pos := "law.go:74", after := #[{ on := 111, ground := Ground.guard }], guard := some (111, true) }) (v := .agg #[.int .u64 (la : Int), .slice pa na ca]) rfl (by kernel_rfl) (by kernel_rfl) (by kernel_rfl) (fun _ _ _ h => hP _ _ _ _ _ h) (Or.inl ⟨by kernel_rfl, fun W hW => by have q0 := (Ba.onC hW).c0; have q1 := (Ba.onC hW).c1; go_simp⟩) h0 ?_
  try (simp only [Act.put, List.getElem_toArray, List.getElem_cons_succ, List.getElem_cons_zero, List.setIfInBounds_toArray, List.set_cons_zero, List.set_cons_succ])
  refine wpAnyH_take (i := 114) (oi := { dst := some 135, op := Op.load 27 (Operand.tmp 8), type := 27, pos := "law.go:74", after := #[{ on := 111, ground := Ground.guard }], guard := some (111, true) }) (v := .agg #[.int .u64 (lb : Int), .slice pb nb cb]) rfl (by kernel_rfl) (by kernel_rfl) (by kernel_rfl) (fun _ _ _ h => hP _ _ _ _ _ h) (Or.inl ⟨by kernel_rfl, fun W hW => by have q0 := (Bb.onC hW).c0; have q1 := (Bb.onC hW).c1; go_simp⟩) h0 ?_
  try (simp only [Act.put, List.getElem_toArray, List.getElem_cons_succ, List.getElem_cons_zero, List.setIfInBounds_toArray, List.set_cons_zero, List.set_cons_succ])
  refine wpAnyH_take (i := 117) (oi := { dst := some 138, op := Op.load 27 (Operand.tmp 7), type := 27, pos := "law.go:74", after := #[{ on := 111, ground := Ground.guard }], guard := some (111, true) }) (v := .agg #[.int .u64 (la : Int), .slice pa na ca]) rfl (by kernel_rfl) (by kernel_rfl) (by kernel_rfl) (fun _ _ _ h => hP _ _ _ _ _ h) (Or.inl ⟨by kernel_rfl, fun W hW => by have q0 := (Ba.onC hW).c0; have q1 := (Ba.onC hW).c1; go_simp⟩) h0 ?_
  try (simp only [Act.put, List.getElem_toArray, List.getElem_cons_succ, List.getElem_cons_zero, List.setIfInBounds_toArray, List.set_cons_zero, List.set_cons_succ])
  refine wpAnyH_ready (rs := [115]) (by kernel_rfl) (by simp) ?_
  refine AllReadyH.cons (o := { dst := some 136, op := Op.call { callee := Callee.value (Operand.func 10), args := #[Operand.tmp 134, Operand.tmp 135], argTypes := #[27, 27] }, type := 27, pos := "law.go:74", after := #[{ on := 113, ground := Ground.data }, { on := 114, ground := Ground.data }, { on := 111, ground := Ground.chain }, { on := 111, ground := Ground.guard }], guard := some (111, true) }) rfl (fun K hK => ?_) AllReadyH.nil
  rw [if_pos (by kernel_rfl)]
  go_simp
  go_at_call 10
  refine (and_any _ _ _ A B (Ha.onC h0) (Hb.onC h0) SA SB).mono ?_
  rintro e W1 ⟨v136, rfl, hs, -, k⟩
  go_wp2_with fail
  have h1 : Kept (fun _ => False) w9 W1 := h0.then k
  refine hK.out _ _ h1 (fun _ => ?_)
  clear hK K
  have Ht136 := Lib.hid hs; clear hs
  clear k
  try (simp only [Act.put, List.getElem_toArray, List.getElem_cons_succ, List.getElem_cons_zero, List.setIfInBounds_toArray, List.set_cons_zero, List.set_cons_succ])
  refine wpAnyH_ready (rs := [116]) (by kernel_rfl) (by simp) ?_
  refine AllReadyH.cons (o := { dst := some 137, op := Op.call { callee := Callee.value (Operand.func 8), args := #[Operand.tmp 133, Operand.tmp 136], argTypes := #[27, 27] }, type := 27, pos := "law.go:74", after := #[{ on := 112, ground := Ground.data }, { on := 115, ground := Ground.data }, { on := 115, ground := Ground.chain }, { on := 111, ground := Ground.guard }], guard := some (111, true) }) rfl (fun K hK => ?_) AllReadyH.nil
  rw [if_pos (by kernel_rfl)]
  go_simp
  go_at_call 8
  refine (or_any _ _ _ A (A &&& B) (Ha.onC h1) Ht136.out SA (small_and SA)).mono ?_
  rintro e W2 ⟨v137, rfl, hs, -, k⟩
  go_wp2_with fail
  have h2 : Kept (fun _ => False) w9 W2 := h1.then k
  refine hK.out _ _ h2 (fun _ => ?_)
  clear hK K
  clear Ht136
  have Ht137 := Lib.hid hs; clear hs
  clear k
  try (simp only [Act.put, List.getElem_toArray, List.getElem_cons_succ, List.getElem_cons_zero, List.setIfInBounds_toArray, List.set_cons_zero, List.set_cons_succ])
  refine wpAnyH_ready (rs := [118]) (by kernel_rfl) (by simp) ?_
  refine AllReadyH.cons (o := { dst := some 139, op := Op.call { callee := Callee.value (Operand.func 9), args := #[Operand.tmp 137, Operand.tmp 138], argTypes := #[27, 27] }, type := 4, pos := "law.go:74", after := #[{ on := 116, ground := Ground.data }, { on := 117, ground := Ground.data }, { on := 116, ground := Ground.chain }, { on := 111, ground := Ground.guard }], guard := some (111, true) }) rfl (fun K hK => ?_) AllReadyH.nil
  rw [if_pos (by kernel_rfl)]
  go_simp
  go_at_call 9
  refine (equal_any _ _ _ (A ||| (A &&& B)) A Ht137.out (Ha.onC h2)).mono ?_
  rintro e W3 ⟨rfl, k⟩
  rw [show decide ((A ||| (A &&& B)) = A) = true from decide_eq_true (bl_10 A B C)]
  go_wp2_with fail
  have h3 : Kept (fun _ => False) w9 W3 := h2.then k
  refine hK.out _ _ h3 (fun _ => ?_)
  clear hK K
  clear Ht137
  clear k
  try (simp only [Act.put, List.getElem_toArray, List.getElem_cons_succ, List.getElem_cons_zero, List.setIfInBounds_toArray, List.set_cons_zero, List.set_cons_succ])
  refine wpAnyH_take (i := 119) (oi := { dst := some 140, op := Op.pick (Operand.tmp 132) (Operand.tmp 139) (Operand.const (Value.bool false)), type := 4, pos := "law.go:74", after := #[{ on := 111, ground := Ground.data }, { on := 118, ground := Ground.data }], guard := none }) (v := .bool true) rfl (by kernel_rfl) (by kernel_rfl) (by kernel_rfl) (fun _ _ _ h => hP _ _ _ _ _ h) (Or.inl ⟨by kernel_rfl, fun W hW => by go_simp⟩) h3 ?_
  try (simp only [Act.put, List.getElem_toArray, List.getElem_cons_succ, List.getElem_cons_zero, List.setIfInBounds_toArray, List.set_cons_zero, List.set_cons_succ])
  refine cast_listed (l2 := (List.replicate 120 true ++ List.replicate 1 false).toArray) (by kernel_rfl) ?_
  exact blw_11 w9 g7 g8 g9 la na ca lb nb cb lc nc cc A B C pa pb pc Ba Bb Bc Ha Hb Hc SA SB SC Q hP hQ _ _ _ _ _ _ _ _ _ _ _ _ _ _ _ _ _ _ _ _ _ _ _ _ _ _ _ _ _ _ _ _ _ _ _ _ _ _ _ _ _ _ _ _ _ _ _ _ _ _ _ _ _ _ _ _ _ _ _ _ _ _ _ _ _ _ _ _ _ _ _ _ _ _ _ _ _ _ _ _ _ _ _ _ _ _ _ _ _ _ _ _ _ _ _ _ _ _ _ _ _ _ _ _ _ _ _ _ _ _ _ _ _ _ _ _ _ _ _ _ _ _ _ _ _ _ _ _ _ _ _ _ _ _ _ _ _ _ h3
end Go.Proofs.YtkgpnnegjhnjdaaDoor
/-
  arbaclaw01.BitsLaws: conjunct 9 of its region. Made by mk_bl3.py.
-/
namespace Go.Proofs.YtkgpnnegjhnjdaaDoor
open Go.RowKit
set_option linter.unusedSimpArgs false
set_option linter.unusedVariables false

set_option maxRecDepth 100000 in
set_option maxHeartbeats 6400000 in
theorem blw_9 (w9 : World) (g7 g8 g9 la na ca lb nb cb lc nc cc A B C : Nat) (pa pb pc : Option Addr)
    (Ba : BoxAt w9 g7 la (.slice pa na ca)) (Bb : BoxAt w9 g8 lb (.slice pb nb cb)) (Bc : BoxAt w9 g9 lc (.slice pc nc cc))
    (Ha : SetV w9 (.agg #[.int .u64 (la : Int), .slice pa na ca]) A) (Hb : SetV w9 (.agg #[.int .u64 (lb : Int), .slice pb nb cb]) B) (Hc : SetV w9 (.agg #[.int .u64 (lc : Int), .slice pc nc cc]) C)
    (SA : Small A) (SB : Small B) (SC : Small C) (Q : Exit → Act → World → Prop) (hP : ∀ (c : _) (a : Act) (d : Option Tmp) (v : Value) (w : World), Q (.panic c) (a.put d v) w → Q (.panic c) a w) (hQ : ∀ (u0 u1 u2 u3 u4 u5 u7 u8 u9 u10 u11 u12 u13 u14 u15 u16 u17 u18 u19 u20 u21 u22 u23 u24 u25 u26 u27 u28 u29 u30 u31 u32 u33 u34 u35 u36 u37 u38 u39 u40 u41 u42 u43 u44 u45 u46 u47 u48 u49 u50 u51 u52 u53 u54 u55 u56 u57 u58 u59 u60 u61 u62 u63 u64 u65 u66 u67 u68 u69 u70 u71 u72 u73 u74 u75 u76 u77 u78 u79 u80 u81 u82 u83 u84 u85 u86 u87 u88 u89 u90 u91 u92 u93 u94 u95 u96 u97 u98 u99 u100 u101 u102 u103 u104 u105 u106 u107 u108 u109 u110 u111 u112 u113 u114 u115 u116 u117 u118 u119 u120 u121 u122 u123 u124 u125 u126 u127 u128 u129 u130 u131 u132 u133 u134 u135 u136 u137 u138 u139 u140 : Value) (W : World), Kept (fun _ => False) w9 W → Q .normal { tmps := List.toArray (u0 :: u1 :: u2 :: u3 :: u4 :: u5 :: .bool true :: u7 :: u8 :: u9 :: u10 :: u11 :: u12 :: u13 :: u14 :: u15 :: u16 :: u17 :: u18 :: u19 :: u20 :: u21 :: u22 :: u23 :: u24 :: u25 :: u26 :: u27 :: u28 :: u29 :: u30 :: u31 :: u32 :: u33 :: u34 :: u35 :: u36 :: u37 :: u38 :: u39 :: u40 :: u41 :: u42 :: u43 :: u44 :: u45 :: u46 :: u47 :: u48 :: u49 :: u50 :: u51 :: u52 :: u53 :: u54 :: u55 :: u56 :: u57 :: u58 :: u59 :: u60 :: u61 :: u62 :: u63 :: u64 :: u65 :: u66 :: u67 :: u68 :: u69 :: u70 :: u71 :: u72 :: u73 :: u74 :: u75 :: u76 :: u77 :: u78 :: u79 :: u80 :: u81 :: u82 :: u83 :: u84 :: u85 :: u86 :: u87 :: u88 :: u89 :: u90 :: u91 :: u92 :: u93 :: u94 :: u95 :: u96 :: u97 :: u98 :: u99 :: u100 :: u101 :: u102 :: u103 :: u104 :: u105 :: u106 :: u107 :: u108 :: u109 :: u110 :: u111 :: u112 :: u113 :: u114 :: u115 :: u116 :: u117 :: u118 :: u119 :: u120 :: u121 :: u122 :: u123 :: u124 :: u125 :: u126 :: u127 :: u128 :: u129 :: u130 :: u131 :: u132 :: u133 :: u134 :: u135 :: u136 :: u137 :: u138 :: u139 :: u140 :: []), defers := [] } W)
    (u0 u1 u2 u3 u4 u5 u6 u10 u11 u12 u13 u14 u15 u16 u17 u18 u19 u20 u21 u22 u23 u24 u25 u26 u27 u28 u29 u30 u31 u32 u33 u34 u35 u36 u37 u38 u39 u40 u41 u42 u43 u44 u45 u46 u47 u48 u49 u50 u51 u52 u53 u54 u55 u56 u57 u58 u59 u60 u61 u62 u63 u64 u65 u66 u67 u68 u69 u70 u71 u72 u73 u74 u75 u76 u77 u78 u79 u80 u81 u82 u83 u84 u85 u86 u87 u88 u89 u90 u91 u92 u93 u94 u95 u96 u97 u98 u99 u100 u101 u102 u103 u104 u105 u106 u107 u108 u109 u110 u111 u112 u113 u114 u115 u116 u117 u118 u119 u120 u121 u122 u123 u125 u126 u127 u128 u129 u130 u131 u132 u133 u134 u135 u136 u137 u138 u139 u140 : Value) (W0 : World) (h0 : Kept (fun _ => False) w9 W0) :
    wpAnyH Tryd.prog .any opsL Q (fun W => Kept (fun _ => False) w9 W) 17 (List.replicate 104 true ++ List.replicate 17 false).toArray { tmps := List.toArray (u0 :: u1 :: u2 :: u3 :: u4 :: u5 :: u6 :: .pointer (some ⟨g7, 0, none⟩) :: .pointer (some ⟨g8, 0, none⟩) :: .pointer (some ⟨g9, 0, none⟩) :: u10 :: u11 :: u12 :: u13 :: u14 :: u15 :: u16 :: u17 :: u18 :: u19 :: u20 :: u21 :: u22 :: u23 :: u24 :: u25 :: u26 :: u27 :: u28 :: u29 :: u30 :: u31 :: u32 :: u33 :: u34 :: u35 :: u36 :: u37 :: u38 :: u39 :: u40 :: u41 :: u42 :: u43 :: u44 :: u45 :: u46 :: u47 :: u48 :: u49 :: u50 :: u51 :: u52 :: u53 :: u54 :: u55 :: u56 :: u57 :: u58 :: u59 :: u60 :: u61 :: u62 :: u63 :: u64 :: u65 :: u66 :: u67 :: u68 :: u69 :: u70 :: u71 :: u72 :: u73 :: u74 :: u75 :: u76 :: u77 :: u78 :: u79 :: u80 :: u81 :: u82 :: u83 :: u84 :: u85 :: u86 :: u87 :: u88 :: u89 :: u90 :: u91 :: u92 :: u93 :: u94 :: u95 :: u96 :: u97 :: u98 :: u99 :: u100 :: u101 :: u102 :: u103 :: u104 :: u105 :: u106 :: u107 :: u108 :: u109 :: u110 :: u111 :: u112 :: u113 :: u114 :: u115 :: u116 :: u117 :: u118 :: u119 :: u120 :: u121 :: u122 :: u123 :: .bool true :: u125 :: u126 :: u127 :: u128 :: u129 :: u130 :: u131 :: u132 :: u133 :: u134 :: u135 :: u136 :: u137 :: u138 :: u139 :: u140 :: []), defers := [] } W0 := by
  refine wpAnyH_take (i := 104) (oi := { dst := some 125, op := Op.move (Operand.tmp 124), type := 4, pos := "law.go:74", after := #[{ on := 103, ground := Ground.data }, { on := 101, ground := Ground.chain }], guard := none }) (v := .bool true) rfl (by kernel_rfl) (by kernel_rfl) (by kernel_rfl) (fun _ _ _ h => hP _ _ _ _ _ h) (Or.inl ⟨by kernel_rfl, fun W hW => by go_simp⟩) h0 ?_
  try (simp only [Act.put, List.getElem_toArray, List.getElem_cons_succ, List.getElem_cons_zero, List.setIfInBounds_toArray, List.set_cons_zero, List.set_cons_succ])
  refine wpAnyH_take (i := 105) (oi := { dst := some 126, op := Op.load 27 (Operand.tmp 7), type := 27, pos := "law.go:74", after := #[{ on := 104, ground := Ground.guard }], guard := some (104, true) }) (v := .agg #[.int .u64 (la : Int), .slice pa na ca]) rfl (by kernel_rfl) (by kernel_rfl) (by kernel_rfl) (fun _ _ _ h => hP _ _ _ _ _ h) (Or.inl ⟨by kernel_rfl, fun W hW => by have q0 := (Ba.onC hW).c0; have q1 := (Ba.onC hW).c1; go_simp⟩) h0 ?_
  try (simp only [Act.put, List.getElem_toArray, List.getElem_cons_succ, List.getElem_cons_zero, List.setIfInBounds_toArray, List.set_cons_zero, List.set_cons_succ])
  refine wpAnyH_take (i := 106) (oi := { dst := some 127, op := Op.load 27 (Operand.tmp 7), type := 27, pos := "law.go:74", after := #[{ on := 104, ground := Ground.guard }], guard := some (104, true) }) (v := .agg #[.int .u64 (la : Int), .slice pa na ca]) rfl (by kernel_rfl) (by kernel_rfl) (by kernel_rfl) (fun _ _ _ h => hP _ _ _ _ _ h) (Or.inl ⟨by kernel_rfl, fun W hW => by have q0 := (Ba.onC hW).c0; have q1 := (Ba.onC hW).c1; go_simp⟩) h0 ?_
  try (simp only [Act.put, List.getElem_toArray, List.getElem_cons_succ, List.getElem_cons_zero, List.setIfInBounds_toArray, List.set_cons_zero, List.set_cons_succ])
  refine wpAnyH_take (i := 108) (oi := { dst := some 129, op := Op.load 27 (Operand.tmp 7), type := 27, pos := "law.go:74", after := #[{ on := 104, ground := Ground.guard }], guard := some (104, true) }) (v := .agg #[.int .u64 (la : Int), .slice pa na ca]) rfl (by kernel_rfl) (by kernel_rfl) (by kernel_rfl) (fun _ _ _ h => hP _ _ _ _ _ h) (Or.inl ⟨by kernel_rfl, fun W hW => by have q0 := (Ba.onC hW).c0; have q1 := (Ba.onC hW).c1; go_simp⟩) h0 ?_
  try (simp only [Act.put, List.getElem_toArray, List.getElem_cons_succ, List.getElem_cons_zero, List.setIfInBounds_toArray, List.set_cons_zero, List.set_cons_succ])
  refine wpAnyH_ready (rs := [107]) (by kernel_rfl) (by simp) ?_
  refine AllReadyH.cons (o := { dst := some 128, op := Op.call { callee := Callee.value (Operand.func 8), args := #[Operand.tmp 126, Operand.tmp 127], argTypes := #[27, 27] }, type := 27, pos := "law.go:74", after := #[{ on := 105, ground := Ground.data }, { on := 106, ground := Ground.data }, { on := 104, ground := Ground.chain }, { on := 104, ground := Ground.guard }], guard := some (104, true) }) rfl (fun K hK => ?_) AllReadyH.nil
  rw [if_pos (by kernel_rfl)]
  go_simp
  go_at_call 8
  refine (or_any _ _ _ A A (Ha.onC h0) (Ha.onC h0) SA SA).mono ?_
  rintro e W1 ⟨v128, rfl, hs, -, k⟩
  go_wp2_with fail
  have h1 : Kept (fun _ => False) w9 W1 := h0.then k
  refine hK.out _ _ h1 (fun _ => ?_)
  clear hK K
  have Ht128 := Lib.hid hs; clear hs
  clear k
  try (simp only [Act.put, List.getElem_toArray, List.getElem_cons_succ, List.getElem_cons_zero, List.setIfInBounds_toArray, List.set_cons_zero, List.set_cons_succ])
  refine wpAnyH_ready (rs := [109]) (by kernel_rfl) (by simp) ?_
  refine AllReadyH.cons (o := { dst := some 130, op := Op.call { callee := Callee.value (Operand.func 9), args := #[Operand.tmp 128, Operand.tmp 129], argTypes := #[27, 27] }, type := 4, pos := "law.go:74", after := #[{ on := 107, ground := Ground.data }, { on := 108, ground := Ground.data }, { on := 107, ground := Ground.chain }, { on := 104, ground := Ground.guard }], guard := some (104, true) }) rfl (fun K hK => ?_) AllReadyH.nil
  rw [if_pos (by kernel_rfl)]
  go_simp
  go_at_call 9
  refine (equal_any _ _ _ (A ||| A) A Ht128.out (Ha.onC h1)).mono ?_
  rintro e W2 ⟨rfl, k⟩
  rw [show decide ((A ||| A) = A) = true from decide_eq_true (bl_9 A B C)]
  go_wp2_with fail
  have h2 : Kept (fun _ => False) w9 W2 := h1.then k
  refine hK.out _ _ h2 (fun _ => ?_)
  clear hK K
  clear Ht128
  clear k
  try (simp only [Act.put, List.getElem_toArray, List.getElem_cons_succ, List.getElem_cons_zero, List.setIfInBounds_toArray, List.set_cons_zero, List.set_cons_succ])
  refine wpAnyH_take (i := 110) (oi := { dst := some 131, op := Op.pick (Operand.tmp 125) (Operand.tmp 130) (Operand.const (Value.bool false)), type := 4, pos := "law.go:74", after := #[{ on := 104, ground := Ground.data }, { on := 109, ground := Ground.data }], guard := none }) (v := .bool true) rfl (by kernel_rfl) (by kernel_rfl) (by kernel_rfl) (fun _ _ _ h => hP _ _ _ _ _ h) (Or.inl ⟨by kernel_rfl, fun W hW => by go_simp⟩) h2 ?_
  try (simp only [Act.put, List.getElem_toArray, List.getElem_cons_succ, List.getElem_cons_zero, List.setIfInBounds_toArray, List.set_cons_zero, List.set_cons_succ])
  refine cast_listed (l2 := (List.replicate 111 true ++ List.replicate 10 false).toArray) (by kernel_rfl) ?_
  exact blw_10 w9 g7 g8 g9 la na ca lb nb cb lc nc cc A B C pa pb pc Ba Bb Bc Ha Hb Hc SA SB SC Q hP hQ _ _ _ _ _ _ _ _ _ _ _ _ _ _ _ _ _ _ _ _ _ _ _ _ _ _ _ _ _ _ _ _ _ _ _ _ _ _ _ _ _ _ _ _ _ _ _ _ _ _ _ _ _ _ _ _ _ _ _ _ _ _ _ _ _ _ _ _ _ _ _ _ _ _ _ _ _ _ _ _ _ _ _ _ _ _ _ _ _ _ _ _ _ _ _ _ _ _ _ _ _ _ _ _ _ _ _ _ _ _ _ _ _ _ _ _ _ _ _ _ _ _ _ _ _ _ _ _ _ _ _ _ _ _ _ _ _ _ h2
end Go.Proofs.YtkgpnnegjhnjdaaDoor
/-
  arbaclaw01.BitsLaws: conjunct 8 of its region. Made by mk_bl3.py.
-/
namespace Go.Proofs.YtkgpnnegjhnjdaaDoor
open Go.RowKit
set_option linter.unusedSimpArgs false
set_option linter.unusedVariables false

set_option maxRecDepth 100000 in
set_option maxHeartbeats 6400000 in
theorem blw_8 (w9 : World) (g7 g8 g9 la na ca lb nb cb lc nc cc A B C : Nat) (pa pb pc : Option Addr)
    (Ba : BoxAt w9 g7 la (.slice pa na ca)) (Bb : BoxAt w9 g8 lb (.slice pb nb cb)) (Bc : BoxAt w9 g9 lc (.slice pc nc cc))
    (Ha : SetV w9 (.agg #[.int .u64 (la : Int), .slice pa na ca]) A) (Hb : SetV w9 (.agg #[.int .u64 (lb : Int), .slice pb nb cb]) B) (Hc : SetV w9 (.agg #[.int .u64 (lc : Int), .slice pc nc cc]) C)
    (SA : Small A) (SB : Small B) (SC : Small C) (Q : Exit → Act → World → Prop) (hP : ∀ (c : _) (a : Act) (d : Option Tmp) (v : Value) (w : World), Q (.panic c) (a.put d v) w → Q (.panic c) a w) (hQ : ∀ (u0 u1 u2 u3 u4 u5 u7 u8 u9 u10 u11 u12 u13 u14 u15 u16 u17 u18 u19 u20 u21 u22 u23 u24 u25 u26 u27 u28 u29 u30 u31 u32 u33 u34 u35 u36 u37 u38 u39 u40 u41 u42 u43 u44 u45 u46 u47 u48 u49 u50 u51 u52 u53 u54 u55 u56 u57 u58 u59 u60 u61 u62 u63 u64 u65 u66 u67 u68 u69 u70 u71 u72 u73 u74 u75 u76 u77 u78 u79 u80 u81 u82 u83 u84 u85 u86 u87 u88 u89 u90 u91 u92 u93 u94 u95 u96 u97 u98 u99 u100 u101 u102 u103 u104 u105 u106 u107 u108 u109 u110 u111 u112 u113 u114 u115 u116 u117 u118 u119 u120 u121 u122 u123 u124 u125 u126 u127 u128 u129 u130 u131 u132 u133 u134 u135 u136 u137 u138 u139 u140 : Value) (W : World), Kept (fun _ => False) w9 W → Q .normal { tmps := List.toArray (u0 :: u1 :: u2 :: u3 :: u4 :: u5 :: .bool true :: u7 :: u8 :: u9 :: u10 :: u11 :: u12 :: u13 :: u14 :: u15 :: u16 :: u17 :: u18 :: u19 :: u20 :: u21 :: u22 :: u23 :: u24 :: u25 :: u26 :: u27 :: u28 :: u29 :: u30 :: u31 :: u32 :: u33 :: u34 :: u35 :: u36 :: u37 :: u38 :: u39 :: u40 :: u41 :: u42 :: u43 :: u44 :: u45 :: u46 :: u47 :: u48 :: u49 :: u50 :: u51 :: u52 :: u53 :: u54 :: u55 :: u56 :: u57 :: u58 :: u59 :: u60 :: u61 :: u62 :: u63 :: u64 :: u65 :: u66 :: u67 :: u68 :: u69 :: u70 :: u71 :: u72 :: u73 :: u74 :: u75 :: u76 :: u77 :: u78 :: u79 :: u80 :: u81 :: u82 :: u83 :: u84 :: u85 :: u86 :: u87 :: u88 :: u89 :: u90 :: u91 :: u92 :: u93 :: u94 :: u95 :: u96 :: u97 :: u98 :: u99 :: u100 :: u101 :: u102 :: u103 :: u104 :: u105 :: u106 :: u107 :: u108 :: u109 :: u110 :: u111 :: u112 :: u113 :: u114 :: u115 :: u116 :: u117 :: u118 :: u119 :: u120 :: u121 :: u122 :: u123 :: u124 :: u125 :: u126 :: u127 :: u128 :: u129 :: u130 :: u131 :: u132 :: u133 :: u134 :: u135 :: u136 :: u137 :: u138 :: u139 :: u140 :: []), defers := [] } W)
    (u0 u1 u2 u3 u4 u5 u6 u10 u11 u12 u13 u14 u15 u16 u17 u18 u19 u20 u21 u22 u23 u24 u25 u26 u27 u28 u29 u30 u31 u32 u33 u34 u35 u36 u37 u38 u39 u40 u41 u42 u43 u44 u45 u46 u47 u48 u49 u50 u51 u52 u53 u54 u55 u56 u57 u58 u59 u60 u61 u62 u63 u64 u65 u66 u67 u68 u69 u70 u71 u72 u73 u74 u75 u76 u77 u78 u79 u80 u81 u82 u83 u84 u85 u86 u87 u88 u89 u90 u91 u92 u93 u94 u95 u96 u97 u98 u99 u100 u101 u102 u103 u104 u105 u106 u107 u108 u109 u110 u111 u112 u113 u114 u115 u117 u118 u119 u120 u121 u122 u123 u124 u125 u126 u127 u128 u129 u130 u131 u132 u133 u134 u135 u136 u137 u138 u139 u140 : Value) (W0 : World) (h0 : Kept (fun _ => False) w9 W0) :
    wpAnyH Tryd.prog .any opsL Q (fun W => Kept (fun _ => False) w9 W) 25 (List.replicate 96 true ++ List.replicate 25 false).toArray { tmps := List.toArray (u0 :: u1 :: u2 :: u3 :: u4 :: u5 :: u6 :: .pointer (some ⟨g7, 0, none⟩) :: .pointer (some ⟨g8, 0, none⟩) :: .pointer (some ⟨g9, 0, none⟩) :: u10 :: u11 :: u12 :: u13 :: u14 :: u15 :: u16 :: u17 :: u18 :: u19 :: u20 :: u21 :: u22 :: u23 :: u24 :: u25 :: u26 :: u27 :: u28 :: u29 :: u30 :: u31 :: u32 :: u33 :: u34 :: u35 :: u36 :: u37 :: u38 :: u39 :: u40 :: u41 :: u42 :: u43 :: u44 :: u45 :: u46 :: u47 :: u48 :: u49 :: u50 :: u51 :: u52 :: u53 :: u54 :: u55 :: u56 :: u57 :: u58 :: u59 :: u60 :: u61 :: u62 :: u63 :: u64 :: u65 :: u66 :: u67 :: u68 :: u69 :: u70 :: u71 :: u72 :: u73 :: u74 :: u75 :: u76 :: u77 :: u78 :: u79 :: u80 :: u81 :: u82 :: u83 :: u84 :: u85 :: u86 :: u87 :: u88 :: u89 :: u90 :: u91 :: u92 :: u93 :: u94 :: u95 :: u96 :: u97 :: u98 :: u99 :: u100 :: u101 :: u102 :: u103 :: u104 :: u105 :: u106 :: u107 :: u108 :: u109 :: u110 :: u111 :: u112 :: u113 :: u114 :: u115 :: .bool true :: u117 :: u118 :: u119 :: u120 :: u121 :: u122 :: u123 :: u124 :: u125 :: u126 :: u127 :: u128 :: u129 :: u130 :: u131 :: u132 :: u133 :: u134 :: u135 :: u136 :: u137 :: u138 :: u139 :: u140 :: []), defers := [] } W0 := by
  refine wpAnyH_take (i := 96) (oi := { dst := some 117, op := Op.move (Operand.tmp 116), type := 4, pos := "law.go:74", after := #[{ on := 95, ground := Ground.data }, { on := 94, ground := Ground.chain }], guard := none }) (v := .bool true) rfl (by kernel_rfl) (by kernel_rfl) (by kernel_rfl) (fun _ _ _ h => hP _ _ _ _ _ h) (Or.inl ⟨by kernel_rfl, fun W hW => by go_simp⟩) h0 ?_
  try (simp only [Act.put, List.getElem_toArray, List.getElem_cons_succ, List.getElem_cons_zero, List.setIfInBounds_toArray, List.set_cons_zero, List.set_cons_succ])
  refine wpAnyH_take (i := 97) (oi := { dst := some 118, op := Op.load 27 (Operand.tmp 7), type := 27, pos := "law.go:74", after := #[{ on := 96, ground := Ground.guard }], guard := some (96, true) }) (v := .agg #[.int .u64 (la : Int), .slice pa na ca]) rfl (by kernel_rfl) (by kernel_rfl) (by kernel_rfl) (fun _ _ _ h => hP _ _ _ _ _ h) (Or.inl ⟨by kernel_rfl, fun W hW => by have q0 := (Ba.onC hW).c0; have q1 := (Ba.onC hW).c1; go_simp⟩) h0 ?_
  try (simp only [Act.put, List.getElem_toArray, List.getElem_cons_succ, List.getElem_cons_zero, List.setIfInBounds_toArray, List.set_cons_zero, List.set_cons_succ])
  refine wpAnyH_take (i := 98) (oi := { dst := some 119, op := Op.load 27 (Operand.tmp 8), type := 27, pos := "law.go:74", after := #[{ on := 96, ground := Ground.guard }], guard := some (96, true) }) (v := .agg #[.int .u64 (lb : Int), .slice pb nb cb]) rfl (by kernel_rfl) (by kernel_rfl) (by kernel_rfl) (fun _ _ _ h => hP _ _ _ _ _ h) (Or.inl ⟨by kernel_rfl, fun W hW => by have q0 := (Bb.onC hW).c0; have q1 := (Bb.onC hW).c1; go_simp⟩) h0 ?_
  try (simp only [Act.put, List.getElem_toArray, List.getElem_cons_succ, List.getElem_cons_zero, List.setIfInBounds_toArray, List.set_cons_zero, List.set_cons_succ])
  refine wpAnyH_take (i := 100) (oi := { dst := some 121, op := Op.load 27 (Operand.tmp 8), type := 27, pos := "law.go:74", after := #[{ on := 96, ground := Ground.guard }], guard := some (96, true) }) (v := .agg #[.int .u64 (lb : Int), .slice pb nb cb]) rfl (by kernel_rfl) (by kernel_rfl) (by kernel_rfl) (fun _ _ _ h => hP _ _ _ _ _ h) (Or.inl ⟨by kernel_rfl, fun W hW => by have q0 := (Bb.onC hW).c0; have q1 := (Bb.onC hW).c1; go_simp⟩) h0 ?_
  try (simp only [Act.put, List.getElem_toArray, List.getElem_cons_succ, List.getElem_cons_zero, List.setIfInBounds_toArray, List.set_cons_zero, List.set_cons_succ])
  refine wpAnyH_ready (rs := [99]) (by kernel_rfl) (by simp) ?_
  refine AllReadyH.cons (o := { dst := some 120, op := Op.call { callee := Callee.value (Operand.func 11), args := #[Operand.tmp 118, Operand.tmp 119], argTypes := #[27, 27] }, type := 27, pos := "law.go:74", after := #[{ on := 97, ground := Ground.data }, { on := 98, ground := Ground.data }, { on := 96, ground := Ground.chain }, { on := 96, ground := Ground.guard }], guard := some (96, true) }) rfl (fun K hK => ?_) AllReadyH.nil
  rw [if_pos (by kernel_rfl)]
  go_simp
  go_at_call 11
  refine (minus_any _ _ _ A B (Ha.onC h0) (Hb.onC h0) SA SB).mono ?_
  rintro e W1 ⟨v120, rfl, hs, -, k⟩
  go_wp2_with fail
  have h1 : Kept (fun _ => False) w9 W1 := h0.then k
  refine hK.out _ _ h1 (fun _ => ?_)
  clear hK K
  have Ht120 := Lib.hid hs; clear hs
  clear k
  try (simp only [Act.put, List.getElem_toArray, List.getElem_cons_succ, List.getElem_cons_zero, List.setIfInBounds_toArray, List.set_cons_zero, List.set_cons_succ])
  refine wpAnyH_ready (rs := [101]) (by kernel_rfl) (by simp) ?_
  refine AllReadyH.cons (o := { dst := some 122, op := Op.call { callee := Callee.value (Operand.func 12), args := #[Operand.tmp 120, Operand.tmp 121], argTypes := #[27, 27] }, type := 4, pos := "law.go:74", after := #[{ on := 99, ground := Ground.data }, { on := 100, ground := Ground.data }, { on := 99, ground := Ground.chain }, { on := 96, ground := Ground.guard }], guard := some (96, true) }) rfl (fun K hK => ?_) AllReadyH.nil
  rw [if_pos (by kernel_rfl)]
  go_simp
  go_at_call 12
  refine (meets_any _ _ _ (anN A B) B Ht120.out (Hb.onC h1) (small_an SA) SB).mono ?_
  rintro e W2 ⟨rfl, k⟩
  rw [show decide ((anN A B) &&& B ≠ 0) = false from decide_eq_false (fun h => h (bl_8 A B C))]
  go_wp2_with fail
  have h2 : Kept (fun _ => False) w9 W2 := h1.then k
  refine hK.out _ _ h2 (fun _ => ?_)
  clear hK K
  clear Ht120
  clear k
  try (simp only [Act.put, List.getElem_toArray, List.getElem_cons_succ, List.getElem_cons_zero, List.setIfInBounds_toArray, List.set_cons_zero, List.set_cons_succ])
  refine wpAnyH_take (i := 102) (oi := { dst := some 123, op := Op.unOp UnOp.not 4 (Operand.tmp 122), type := 4, pos := "law.go:74", after := #[{ on := 101, ground := Ground.data }, { on := 96, ground := Ground.guard }], guard := some (96, true) }) (v := .bool true) rfl (by kernel_rfl) (by kernel_rfl) (by kernel_rfl) (fun _ _ _ h => hP _ _ _ _ _ h) (Or.inl ⟨by kernel_rfl, fun W hW => by go_simp⟩) h2 ?_
  try (simp only [Act.put, List.getElem_toArray, List.getElem_cons_succ, List.getElem_cons_zero, List.setIfInBounds_toArray, List.set_cons_zero, List.set_cons_succ])
  refine wpAnyH_take (i := 103) (oi := { dst := some 124, op := Op.pick (Operand.tmp 117) (Operand.tmp 123) (Operand.const (Value.bool false)), type := 4, pos := "law.go:74", after := #[{ on := 96, ground := Ground.data }, { on := 102, ground := Ground.data }], guard := none }) (v := .bool true) rfl (by kernel_rfl) (by kernel_rfl) (by kernel_rfl) (fun _ _ _ h => hP _ _ _ _ _ h) (Or.inl ⟨by kernel_rfl, fun W hW => by go_simp⟩) h2 ?_
  try (simp only [Act.put, List.getElem_toArray, List.getElem_cons_succ, List.getElem_cons_zero, List.setIfInBounds_toArray, List.set_cons_zero, List.set_cons_succ])
  refine cast_listed (l2 := (List.replicate 104 true ++ List.replicate 17 false).toArray) (by kernel_rfl) ?_
  exact blw_9 w9 g7 g8 g9 la na ca lb nb cb lc nc cc A B C pa pb pc Ba Bb Bc Ha Hb Hc SA SB SC Q hP hQ _ _ _ _ _ _ _ _ _ _ _ _ _ _ _ _ _ _ _ _ _ _ _ _ _ _ _ _ _ _ _ _ _ _ _ _ _ _ _ _ _ _ _ _ _ _ _ _ _ _ _ _ _ _ _ _ _ _ _ _ _ _ _ _ _ _ _ _ _ _ _ _ _ _ _ _ _ _ _ _ _ _ _ _ _ _ _ _ _ _ _ _ _ _ _ _ _ _ _ _ _ _ _ _ _ _ _ _ _ _ _ _ _ _ _ _ _ _ _ _ _ _ _ _ _ _ _ _ _ _ _ _ _ _ _ _ _ _ h2
end Go.Proofs.YtkgpnnegjhnjdaaDoor
/-
  arbaclaw01.BitsLaws: conjunct 7 of its region. Made by mk_bl3.py.
-/
namespace Go.Proofs.YtkgpnnegjhnjdaaDoor
open Go.RowKit
set_option linter.unusedSimpArgs false
set_option linter.unusedVariables false

set_option maxRecDepth 100000 in
set_option maxHeartbeats 6400000 in
theorem blw_7 (w9 : World) (g7 g8 g9 la na ca lb nb cb lc nc cc A B C : Nat) (pa pb pc : Option Addr)
    (Ba : BoxAt w9 g7 la (.slice pa na ca)) (Bb : BoxAt w9 g8 lb (.slice pb nb cb)) (Bc : BoxAt w9 g9 lc (.slice pc nc cc))
    (Ha : SetV w9 (.agg #[.int .u64 (la : Int), .slice pa na ca]) A) (Hb : SetV w9 (.agg #[.int .u64 (lb : Int), .slice pb nb cb]) B) (Hc : SetV w9 (.agg #[.int .u64 (lc : Int), .slice pc nc cc]) C)
    (SA : Small A) (SB : Small B) (SC : Small C) (Q : Exit → Act → World → Prop) (hP : ∀ (c : _) (a : Act) (d : Option Tmp) (v : Value) (w : World), Q (.panic c) (a.put d v) w → Q (.panic c) a w) (hQ : ∀ (u0 u1 u2 u3 u4 u5 u7 u8 u9 u10 u11 u12 u13 u14 u15 u16 u17 u18 u19 u20 u21 u22 u23 u24 u25 u26 u27 u28 u29 u30 u31 u32 u33 u34 u35 u36 u37 u38 u39 u40 u41 u42 u43 u44 u45 u46 u47 u48 u49 u50 u51 u52 u53 u54 u55 u56 u57 u58 u59 u60 u61 u62 u63 u64 u65 u66 u67 u68 u69 u70 u71 u72 u73 u74 u75 u76 u77 u78 u79 u80 u81 u82 u83 u84 u85 u86 u87 u88 u89 u90 u91 u92 u93 u94 u95 u96 u97 u98 u99 u100 u101 u102 u103 u104 u105 u106 u107 u108 u109 u110 u111 u112 u113 u114 u115 u116 u117 u118 u119 u120 u121 u122 u123 u124 u125 u126 u127 u128 u129 u130 u131 u132 u133 u134 u135 u136 u137 u138 u139 u140 : Value) (W : World), Kept (fun _ => False) w9 W → Q .normal { tmps := List.toArray (u0 :: u1 :: u2 :: u3 :: u4 :: u5 :: .bool true :: u7 :: u8 :: u9 :: u10 :: u11 :: u12 :: u13 :: u14 :: u15 :: u16 :: u17 :: u18 :: u19 :: u20 :: u21 :: u22 :: u23 :: u24 :: u25 :: u26 :: u27 :: u28 :: u29 :: u30 :: u31 :: u32 :: u33 :: u34 :: u35 :: u36 :: u37 :: u38 :: u39 :: u40 :: u41 :: u42 :: u43 :: u44 :: u45 :: u46 :: u47 :: u48 :: u49 :: u50 :: u51 :: u52 :: u53 :: u54 :: u55 :: u56 :: u57 :: u58 :: u59 :: u60 :: u61 :: u62 :: u63 :: u64 :: u65 :: u66 :: u67 :: u68 :: u69 :: u70 :: u71 :: u72 :: u73 :: u74 :: u75 :: u76 :: u77 :: u78 :: u79 :: u80 :: u81 :: u82 :: u83 :: u84 :: u85 :: u86 :: u87 :: u88 :: u89 :: u90 :: u91 :: u92 :: u93 :: u94 :: u95 :: u96 :: u97 :: u98 :: u99 :: u100 :: u101 :: u102 :: u103 :: u104 :: u105 :: u106 :: u107 :: u108 :: u109 :: u110 :: u111 :: u112 :: u113 :: u114 :: u115 :: u116 :: u117 :: u118 :: u119 :: u120 :: u121 :: u122 :: u123 :: u124 :: u125 :: u126 :: u127 :: u128 :: u129 :: u130 :: u131 :: u132 :: u133 :: u134 :: u135 :: u136 :: u137 :: u138 :: u139 :: u140 :: []), defers := [] } W)
    (u0 u1 u2 u3 u4 u5 u6 u10 u11 u12 u13 u14 u15 u16 u17 u18 u19 u20 u21 u22 u23 u24 u25 u26 u27 u28 u29 u30 u31 u32 u33 u34 u35 u36 u37 u38 u39 u40 u41 u42 u43 u44 u45 u46 u47 u48 u49 u50 u51 u52 u53 u54 u55 u56 u57 u58 u59 u60 u61 u62 u63 u64 u65 u66 u67 u68 u69 u70 u71 u72 u73 u74 u75 u76 u77 u78 u79 u80 u81 u82 u83 u84 u85 u86 u87 u88 u89 u90 u91 u92 u93 u94 u95 u96 u97 u98 u99 u100 u101 u102 u103 u104 u106 u107 u108 u109 u110 u111 u112 u113 u114 u115 u116 u117 u118 u119 u120 u121 u122 u123 u124 u125 u126 u127 u128 u129 u130 u131 u132 u133 u134 u135 u136 u137 u138 u139 u140 : Value) (W0 : World) (h0 : Kept (fun _ => False) w9 W0) :
    wpAnyH Tryd.prog .any opsL Q (fun W => Kept (fun _ => False) w9 W) 36 (List.replicate 85 true ++ List.replicate 36 false).toArray { tmps := List.toArray (u0 :: u1 :: u2 :: u3 :: u4 :: u5 :: u6 :: .pointer (some ⟨g7, 0, none⟩) :: .pointer (some ⟨g8, 0, none⟩) :: .pointer (some ⟨g9, 0, none⟩) :: u10 :: u11 :: u12 :: u13 :: u14 :: u15 :: u16 :: u17 :: u18 :: u19 :: u20 :: u21 :: u22 :: u23 :: u24 :: u25 :: u26 :: u27 :: u28 :: u29 :: u30 :: u31 :: u32 :: u33 :: u34 :: u35 :: u36 :: u37 :: u38 :: u39 :: u40 :: u41 :: u42 :: u43 :: u44 :: u45 :: u46 :: u47 :: u48 :: u49 :: u50 :: u51 :: u52 :: u53 :: u54 :: u55 :: u56 :: u57 :: u58 :: u59 :: u60 :: u61 :: u62 :: u63 :: u64 :: u65 :: u66 :: u67 :: u68 :: u69 :: u70 :: u71 :: u72 :: u73 :: u74 :: u75 :: u76 :: u77 :: u78 :: u79 :: u80 :: u81 :: u82 :: u83 :: u84 :: u85 :: u86 :: u87 :: u88 :: u89 :: u90 :: u91 :: u92 :: u93 :: u94 :: u95 :: u96 :: u97 :: u98 :: u99 :: u100 :: u101 :: u102 :: u103 :: u104 :: .bool true :: u106 :: u107 :: u108 :: u109 :: u110 :: u111 :: u112 :: u113 :: u114 :: u115 :: u116 :: u117 :: u118 :: u119 :: u120 :: u121 :: u122 :: u123 :: u124 :: u125 :: u126 :: u127 :: u128 :: u129 :: u130 :: u131 :: u132 :: u133 :: u134 :: u135 :: u136 :: u137 :: u138 :: u139 :: u140 :: []), defers := [] } W0 := by
  refine wpAnyH_take (i := 85) (oi := { dst := some 106, op := Op.move (Operand.tmp 105), type := 4, pos := "law.go:74", after := #[{ on := 84, ground := Ground.data }, { on := 83, ground := Ground.chain }], guard := none }) (v := .bool true) rfl (by kernel_rfl) (by kernel_rfl) (by kernel_rfl) (fun _ _ _ h => hP _ _ _ _ _ h) (Or.inl ⟨by kernel_rfl, fun W hW => by go_simp⟩) h0 ?_
  try (simp only [Act.put, List.getElem_toArray, List.getElem_cons_succ, List.getElem_cons_zero, List.setIfInBounds_toArray, List.set_cons_zero, List.set_cons_succ])
  refine wpAnyH_take (i := 86) (oi := { dst := some 107, op := Op.load 27 (Operand.tmp 7), type := 27, pos := "law.go:74", after := #[{ on := 85, ground := Ground.guard }], guard := some (85, true) }) (v := .agg #[.int .u64 (la : Int), .slice pa na ca]) rfl (by kernel_rfl) (by kernel_rfl) (by kernel_rfl) (fun _ _ _ h => hP _ _ _ _ _ h) (Or.inl ⟨by kernel_rfl, fun W hW => by have q0 := (Ba.onC hW).c0; have q1 := (Ba.onC hW).c1; go_simp⟩) h0 ?_
  try (simp only [Act.put, List.getElem_toArray, List.getElem_cons_succ, List.getElem_cons_zero, List.setIfInBounds_toArray, List.set_cons_zero, List.set_cons_succ])
  refine wpAnyH_take (i := 87) (oi := { dst := some 108, op := Op.load 27 (Operand.tmp 8), type := 27, pos := "law.go:74", after := #[{ on := 85, ground := Ground.guard }], guard := some (85, true) }) (v := .agg #[.int .u64 (lb : Int), .slice pb nb cb]) rfl (by kernel_rfl) (by kernel_rfl) (by kernel_rfl) (fun _ _ _ h => hP _ _ _ _ _ h) (Or.inl ⟨by kernel_rfl, fun W hW => by have q0 := (Bb.onC hW).c0; have q1 := (Bb.onC hW).c1; go_simp⟩) h0 ?_
  try (simp only [Act.put, List.getElem_toArray, List.getElem_cons_succ, List.getElem_cons_zero, List.setIfInBounds_toArray, List.set_cons_zero, List.set_cons_succ])
  refine wpAnyH_take (i := 89) (oi := { dst := some 110, op := Op.load 27 (Operand.tmp 7), type := 27, pos := "law.go:74", after := #[{ on := 85, ground := Ground.guard }], guard := some (85, true) }) (v := .agg #[.int .u64 (la : Int), .slice pa na ca]) rfl (by kernel_rfl) (by kernel_rfl) (by kernel_rfl) (fun _ _ _ h => hP _ _ _ _ _ h) (Or.inl ⟨by kernel_rfl, fun W hW => by have q0 := (Ba.onC hW).c0; have q1 := (Ba.onC hW).c1; go_simp⟩) h0 ?_
  try (simp only [Act.put, List.getElem_toArray, List.getElem_cons_succ, List.getElem_cons_zero, List.setIfInBounds_toArray, List.set_cons_zero, List.set_cons_succ])
  refine wpAnyH_take (i := 90) (oi := { dst := some 111, op := Op.load 27 (Operand.tmp 8), type := 27, pos := "law.go:74", after := #[{ on := 85, ground := Ground.guard }], guard := some (85, true) }) (v := .agg #[.int .u64 (lb : Int), .slice pb nb cb]) rfl (by kernel_rfl) (by kernel_rfl) (by kernel_rfl) (fun _ _ _ h => hP _ _ _ _ _ h) (Or.inl ⟨by kernel_rfl, fun W hW => by have q0 := (Bb.onC hW).c0; have q1 := (Bb.onC hW).c1; go_simp⟩) h0 ?_
  try (simp only [Act.put, List.getElem_toArray, List.getElem_cons_succ, List.getElem_cons_zero, List.setIfInBounds_toArray, List.set_cons_zero, List.set_cons_succ])
  refine wpAnyH_take (i := 93) (oi := { dst := some 114, op := Op.load 27 (Operand.tmp 7), type := 27, pos := "law.go:74", after := #[{ on := 85, ground := Ground.guard }], guard := some (85, true) }) (v := .agg #[.int .u64 (la : Int), .slice pa na ca]) rfl (by kernel_rfl) (by kernel_rfl) (by kernel_rfl) (fun _ _ _ h => hP _ _ _ _ _ h) (Or.inl ⟨by kernel_rfl, fun W hW => by have q0 := (Ba.onC hW).c0; have q1 := (Ba.onC hW).c1; go_simp⟩) h0 ?_
  try (simp only [Act.put, List.getElem_toArray, List.getElem_cons_succ, List.getElem_cons_zero, List.setIfInBounds_toArray, List.set_cons_zero, List.set_cons_succ])
  refine wpAnyH_ready (rs := [88]) (by kernel_rfl) (by simp) ?_
  refine AllReadyH.cons (o := { dst := some 109, op := Op.call { callee := Callee.value (Operand.func 11), args := #[Operand.tmp 107, Operand.tmp 108], argTypes := #[27, 27] }, type := 27, pos := "law.go:74", after := #[{ on := 86, ground := Ground.data }, { on := 87, ground := Ground.data }, { on := 85, ground := Ground.chain }, { on := 85, ground := Ground.guard }], guard := some (85, true) }) rfl (fun K hK => ?_) AllReadyH.nil
  rw [if_pos (by kernel_rfl)]
  go_simp
  go_at_call 11
  refine (minus_any _ _ _ A B (Ha.onC h0) (Hb.onC h0) SA SB).mono ?_
  rintro e W1 ⟨v109, rfl, hs, -, k⟩
  go_wp2_with fail
  have h1 : Kept (fun _ => False) w9 W1 := h0.then k
  refine hK.out _ _ h1 (fun _ => ?_)
  clear hK K
  have Ht109 := Lib.hid hs; clear hs
  clear k
  try (simp only [Act.put, List.getElem_toArray, List.getElem_cons_succ, List.getElem_cons_zero, List.setIfInBounds_toArray, List.set_cons_zero, List.set_cons_succ])
  refine wpAnyH_ready (rs := [91]) (by kernel_rfl) (by simp) ?_
  refine AllReadyH.cons (o := { dst := some 112, op := Op.call { callee := Callee.value (Operand.func 10), args := #[Operand.tmp 110, Operand.tmp 111], argTypes := #[27, 27] }, type := 27, pos := "law.go:74", after := #[{ on := 89, ground := Ground.data }, { on := 90, ground := Ground.data }, { on := 88, ground := Ground.chain }, { on := 85, ground := Ground.guard }], guard := some (85, true) }) rfl (fun K hK => ?_) AllReadyH.nil
  rw [if_pos (by kernel_rfl)]
  go_simp
  go_at_call 10
  refine (and_any _ _ _ A B (Ha.onC h1) (Hb.onC h1) SA SB).mono ?_
  rintro e W2 ⟨v112, rfl, hs, -, k⟩
  go_wp2_with fail
  have h2 : Kept (fun _ => False) w9 W2 := h1.then k
  refine hK.out _ _ h2 (fun _ => ?_)
  clear hK K
  replace Ht109 := Lib.hid (Ht109.out.onC k)
  have Ht112 := Lib.hid hs; clear hs
  clear k
  try (simp only [Act.put, List.getElem_toArray, List.getElem_cons_succ, List.getElem_cons_zero, List.setIfInBounds_toArray, List.set_cons_zero, List.set_cons_succ])
  refine wpAnyH_ready (rs := [92]) (by kernel_rfl) (by simp) ?_
  refine AllReadyH.cons (o := { dst := some 113, op := Op.call { callee := Callee.value (Operand.func 8), args := #[Operand.tmp 109, Operand.tmp 112], argTypes := #[27, 27] }, type := 27, pos := "law.go:74", after := #[{ on := 88, ground := Ground.data }, { on := 91, ground := Ground.data }, { on := 91, ground := Ground.chain }, { on := 85, ground := Ground.guard }], guard := some (85, true) }) rfl (fun K hK => ?_) AllReadyH.nil
  rw [if_pos (by kernel_rfl)]
  go_simp
  go_at_call 8
  refine (or_any _ _ _ (anN A B) (A &&& B) Ht109.out Ht112.out (small_an SA) (small_and SA)).mono ?_
  rintro e W3 ⟨v113, rfl, hs, -, k⟩
  go_wp2_with fail
  have h3 : Kept (fun _ => False) w9 W3 := h2.then k
  refine hK.out _ _ h3 (fun _ => ?_)
  clear hK K
  clear Ht109
  clear Ht112
  have Ht113 := Lib.hid hs; clear hs
  clear k
  try (simp only [Act.put, List.getElem_toArray, List.getElem_cons_succ, List.getElem_cons_zero, List.setIfInBounds_toArray, List.set_cons_zero, List.set_cons_succ])
  refine wpAnyH_ready (rs := [94]) (by kernel_rfl) (by simp) ?_
  refine AllReadyH.cons (o := { dst := some 115, op := Op.call { callee := Callee.value (Operand.func 9), args := #[Operand.tmp 113, Operand.tmp 114], argTypes := #[27, 27] }, type := 4, pos := "law.go:74", after := #[{ on := 92, ground := Ground.data }, { on := 93, ground := Ground.data }, { on := 92, ground := Ground.chain }, { on := 85, ground := Ground.guard }], guard := some (85, true) }) rfl (fun K hK => ?_) AllReadyH.nil
  rw [if_pos (by kernel_rfl)]
  go_simp
  go_at_call 9
  refine (equal_any _ _ _ ((anN A B) ||| (A &&& B)) A Ht113.out (Ha.onC h3)).mono ?_
  rintro e W4 ⟨rfl, k⟩
  rw [show decide (((anN A B) ||| (A &&& B)) = A) = true from decide_eq_true (bl_7 A B C)]
  go_wp2_with fail
  have h4 : Kept (fun _ => False) w9 W4 := h3.then k
  refine hK.out _ _ h4 (fun _ => ?_)
  clear hK K
  clear Ht113
  clear k
  try (simp only [Act.put, List.getElem_toArray, List.getElem_cons_succ, List.getElem_cons_zero, List.setIfInBounds_toArray, List.set_cons_zero, List.set_cons_succ])
  refine wpAnyH_take (i := 95) (oi := { dst := some 116, op := Op.pick (Operand.tmp 106) (Operand.tmp 115) (Operand.const (Value.bool false)), type := 4, pos := "law.go:74", after := #[{ on := 85, ground := Ground.data }, { on := 94, ground := Ground.data }], guard := none }) (v := .bool true) rfl (by kernel_rfl) (by kernel_rfl) (by kernel_rfl) (fun _ _ _ h => hP _ _ _ _ _ h) (Or.inl ⟨by kernel_rfl, fun W hW => by go_simp⟩) h4 ?_
  try (simp only [Act.put, List.getElem_toArray, List.getElem_cons_succ, List.getElem_cons_zero, List.setIfInBounds_toArray, List.set_cons_zero, List.set_cons_succ])
  refine cast_listed (l2 := (List.replicate 96 true ++ List.replicate 25 false).toArray) (by kernel_rfl) ?_
  exact blw_8 w9 g7 g8 g9 la na ca lb nb cb lc nc cc A B C pa pb pc Ba Bb Bc Ha Hb Hc SA SB SC Q hP hQ _ _ _ _ _ _ _ _ _ _ _ _ _ _ _ _ _ _ _ _ _ _ _ _ _ _ _ _ _ _ _ _ _ _ _ _ _ _ _ _ _ _ _ _ _ _ _ _ _ _ _ _ _ _ _ _ _ _ _ _ _ _ _ _ _ _ _ _ _ _ _ _ _ _ _ _ _ _ _ _ _ _ _ _ _ _ _ _ _ _ _ _ _ _ _ _ _ _ _ _ _ _ _ _ _ _ _ _ _ _ _ _ _ _ _ _ _ _ _ _ _ _ _ _ _ _ _ _ _ _ _ _ _ _ _ _ _ _ h4
end Go.Proofs.YtkgpnnegjhnjdaaDoor
/-
  arbaclaw01.BitsLaws: conjunct 6 of its region. Made by mk_bl3.py.
-/
namespace Go.Proofs.YtkgpnnegjhnjdaaDoor
open Go.RowKit
set_option linter.unusedSimpArgs false
set_option linter.unusedVariables false

set_option maxRecDepth 100000 in
set_option maxHeartbeats 6400000 in
theorem blw_6 (w9 : World) (g7 g8 g9 la na ca lb nb cb lc nc cc A B C : Nat) (pa pb pc : Option Addr)
    (Ba : BoxAt w9 g7 la (.slice pa na ca)) (Bb : BoxAt w9 g8 lb (.slice pb nb cb)) (Bc : BoxAt w9 g9 lc (.slice pc nc cc))
    (Ha : SetV w9 (.agg #[.int .u64 (la : Int), .slice pa na ca]) A) (Hb : SetV w9 (.agg #[.int .u64 (lb : Int), .slice pb nb cb]) B) (Hc : SetV w9 (.agg #[.int .u64 (lc : Int), .slice pc nc cc]) C)
    (SA : Small A) (SB : Small B) (SC : Small C) (Q : Exit → Act → World → Prop) (hP : ∀ (c : _) (a : Act) (d : Option Tmp) (v : Value) (w : World), Q (.panic c) (a.put d v) w → Q (.panic c) a w) (hQ : ∀ (u0 u1 u2 u3 u4 u5 u7 u8 u9 u10 u11 u12 u13 u14 u15 u16 u17 u18 u19 u20 u21 u22 u23 u24 u25 u26 u27 u28 u29 u30 u31 u32 u33 u34 u35 u36 u37 u38 u39 u40 u41 u42 u43 u44 u45 u46 u47 u48 u49 u50 u51 u52 u53 u54 u55 u56 u57 u58 u59 u60 u61 u62 u63 u64 u65 u66 u67 u68 u69 u70 u71 u72 u73 u74 u75 u76 u77 u78 u79 u80 u81 u82 u83 u84 u85 u86 u87 u88 u89 u90 u91 u92 u93 u94 u95 u96 u97 u98 u99 u100 u101 u102 u103 u104 u105 u106 u107 u108 u109 u110 u111 u112 u113 u114 u115 u116 u117 u118 u119 u120 u121 u122 u123 u124 u125 u126 u127 u128 u129 u130 u131 u132 u133 u134 u135 u136 u137 u138 u139 u140 : Value) (W : World), Kept (fun _ => False) w9 W → Q .normal { tmps := List.toArray (u0 :: u1 :: u2 :: u3 :: u4 :: u5 :: .bool true :: u7 :: u8 :: u9 :: u10 :: u11 :: u12 :: u13 :: u14 :: u15 :: u16 :: u17 :: u18 :: u19 :: u20 :: u21 :: u22 :: u23 :: u24 :: u25 :: u26 :: u27 :: u28 :: u29 :: u30 :: u31 :: u32 :: u33 :: u34 :: u35 :: u36 :: u37 :: u38 :: u39 :: u40 :: u41 :: u42 :: u43 :: u44 :: u45 :: u46 :: u47 :: u48 :: u49 :: u50 :: u51 :: u52 :: u53 :: u54 :: u55 :: u56 :: u57 :: u58 :: u59 :: u60 :: u61 :: u62 :: u63 :: u64 :: u65 :: u66 :: u67 :: u68 :: u69 :: u70 :: u71 :: u72 :: u73 :: u74 :: u75 :: u76 :: u77 :: u78 :: u79 :: u80 :: u81 :: u82 :: u83 :: u84 :: u85 :: u86 :: u87 :: u88 :: u89 :: u90 :: u91 :: u92 :: u93 :: u94 :: u95 :: u96 :: u97 :: u98 :: u99 :: u100 :: u101 :: u102 :: u103 :: u104 :: u105 :: u106 :: u107 :: u108 :: u109 :: u110 :: u111 :: u112 :: u113 :: u114 :: u115 :: u116 :: u117 :: u118 :: u119 :: u120 :: u121 :: u122 :: u123 :: u124 :: u125 :: u126 :: u127 :: u128 :: u129 :: u130 :: u131 :: u132 :: u133 :: u134 :: u135 :: u136 :: u137 :: u138 :: u139 :: u140 :: []), defers := [] } W)
    (u0 u1 u2 u3 u4 u5 u6 u10 u11 u12 u13 u14 u15 u16 u17 u18 u19 u20 u21 u22 u23 u24 u25 u26 u27 u28 u29 u30 u31 u32 u33 u34 u35 u36 u37 u38 u39 u40 u41 u42 u43 u44 u45 u46 u47 u48 u49 u50 u51 u52 u53 u54 u55 u56 u57 u58 u59 u60 u61 u62 u63 u64 u65 u66 u67 u68 u69 u70 u71 u72 u73 u74 u75 u76 u77 u78 u79 u80 u81 u82 u83 u84 u85 u86 u87 u88 u89 u90 u91 u93 u94 u95 u96 u97 u98 u99 u100 u101 u102 u103 u104 u105 u106 u107 u108 u109 u110 u111 u112 u113 u114 u115 u116 u117 u118 u119 u120 u121 u122 u123 u124 u125 u126 u127 u128 u129 u130 u131 u132 u133 u134 u135 u136 u137 u138 u139 u140 : Value) (W0 : World) (h0 : Kept (fun _ => False) w9 W0) :
    wpAnyH Tryd.prog .any opsL Q (fun W => Kept (fun _ => False) w9 W) 49 (List.replicate 72 true ++ List.replicate 49 false).toArray { tmps := List.toArray (u0 :: u1 :: u2 :: u3 :: u4 :: u5 :: u6 :: .pointer (some ⟨g7, 0, none⟩) :: .pointer (some ⟨g8, 0, none⟩) :: .pointer (some ⟨g9, 0, none⟩) :: u10 :: u11 :: u12 :: u13 :: u14 :: u15 :: u16 :: u17 :: u18 :: u19 :: u20 :: u21 :: u22 :: u23 :: u24 :: u25 :: u26 :: u27 :: u28 :: u29 :: u30 :: u31 :: u32 :: u33 :: u34 :: u35 :: u36 :: u37 :: u38 :: u39 :: u40 :: u41 :: u42 :: u43 :: u44 :: u45 :: u46 :: u47 :: u48 :: u49 :: u50 :: u51 :: u52 :: u53 :: u54 :: u55 :: u56 :: u57 :: u58 :: u59 :: u60 :: u61 :: u62 :: u63 :: u64 :: u65 :: u66 :: u67 :: u68 :: u69 :: u70 :: u71 :: u72 :: u73 :: u74 :: u75 :: u76 :: u77 :: u78 :: u79 :: u80 :: u81 :: u82 :: u83 :: u84 :: u85 :: u86 :: u87 :: u88 :: u89 :: u90 :: u91 :: .bool true :: u93 :: u94 :: u95 :: u96 :: u97 :: u98 :: u99 :: u100 :: u101 :: u102 :: u103 :: u104 :: u105 :: u106 :: u107 :: u108 :: u109 :: u110 :: u111 :: u112 :: u113 :: u114 :: u115 :: u116 :: u117 :: u118 :: u119 :: u120 :: u121 :: u122 :: u123 :: u124 :: u125 :: u126 :: u127 :: u128 :: u129 :: u130 :: u131 :: u132 :: u133 :: u134 :: u135 :: u136 :: u137 :: u138 :: u139 :: u140 :: []), defers := [] } W0 := by
  refine wpAnyH_take (i := 72) (oi := { dst := some 93, op := Op.move (Operand.tmp 92), type := 4, pos := "law.go:74", after := #[{ on := 71, ground := Ground.data }, { on := 70, ground := Ground.chain }], guard := none }) (v := .bool true) rfl (by kernel_rfl) (by kernel_rfl) (by kernel_rfl) (fun _ _ _ h => hP _ _ _ _ _ h) (Or.inl ⟨by kernel_rfl, fun W hW => by go_simp⟩) h0 ?_
  try (simp only [Act.put, List.getElem_toArray, List.getElem_cons_succ, List.getElem_cons_zero, List.setIfInBounds_toArray, List.set_cons_zero, List.set_cons_succ])
  refine wpAnyH_take (i := 73) (oi := { dst := some 94, op := Op.load 27 (Operand.tmp 7), type := 27, pos := "law.go:74", after := #[{ on := 72, ground := Ground.guard }], guard := some (72, true) }) (v := .agg #[.int .u64 (la : Int), .slice pa na ca]) rfl (by kernel_rfl) (by kernel_rfl) (by kernel_rfl) (fun _ _ _ h => hP _ _ _ _ _ h) (Or.inl ⟨by kernel_rfl, fun W hW => by have q0 := (Ba.onC hW).c0; have q1 := (Ba.onC hW).c1; go_simp⟩) h0 ?_
  try (simp only [Act.put, List.getElem_toArray, List.getElem_cons_succ, List.getElem_cons_zero, List.setIfInBounds_toArray, List.set_cons_zero, List.set_cons_succ])
  refine wpAnyH_take (i := 74) (oi := { dst := some 95, op := Op.load 27 (Operand.tmp 8), type := 27, pos := "law.go:74", after := #[{ on := 72, ground := Ground.guard }], guard := some (72, true) }) (v := .agg #[.int .u64 (lb : Int), .slice pb nb cb]) rfl (by kernel_rfl) (by kernel_rfl) (by kernel_rfl) (fun _ _ _ h => hP _ _ _ _ _ h) (Or.inl ⟨by kernel_rfl, fun W hW => by have q0 := (Bb.onC hW).c0; have q1 := (Bb.onC hW).c1; go_simp⟩) h0 ?_
  try (simp only [Act.put, List.getElem_toArray, List.getElem_cons_succ, List.getElem_cons_zero, List.setIfInBounds_toArray, List.set_cons_zero, List.set_cons_succ])
  refine wpAnyH_take (i := 75) (oi := { dst := some 96, op := Op.load 27 (Operand.tmp 9), type := 27, pos := "law.go:74", after := #[{ on := 72, ground := Ground.guard }], guard := some (72, true) }) (v := .agg #[.int .u64 (lc : Int), .slice pc nc cc]) rfl (by kernel_rfl) (by kernel_rfl) (by kernel_rfl) (fun _ _ _ h => hP _ _ _ _ _ h) (Or.inl ⟨by kernel_rfl, fun W hW => by have q0 := (Bc.onC hW).c0; have q1 := (Bc.onC hW).c1; go_simp⟩) h0 ?_
  try (simp only [Act.put, List.getElem_toArray, List.getElem_cons_succ, List.getElem_cons_zero, List.setIfInBounds_toArray, List.set_cons_zero, List.set_cons_succ])
  refine wpAnyH_take (i := 78) (oi := { dst := some 99, op := Op.load 27 (Operand.tmp 7), type := 27, pos := "law.go:74", after := #[{ on := 72, ground := Ground.guard }], guard := some (72, true) }) (v := .agg #[.int .u64 (la : Int), .slice pa na ca]) rfl (by kernel_rfl) (by kernel_rfl) (by kernel_rfl) (fun _ _ _ h => hP _ _ _ _ _ h) (Or.inl ⟨by kernel_rfl, fun W hW => by have q0 := (Ba.onC hW).c0; have q1 := (Ba.onC hW).c1; go_simp⟩) h0 ?_
  try (simp only [Act.put, List.getElem_toArray, List.getElem_cons_succ, List.getElem_cons_zero, List.setIfInBounds_toArray, List.set_cons_zero, List.set_cons_succ])
  refine wpAnyH_take (i := 79) (oi := { dst := some 100, op := Op.load 27 (Operand.tmp 8), type := 27, pos := "law.go:74", after := #[{ on := 72, ground := Ground.guard }], guard := some (72, true) }) (v := .agg #[.int .u64 (lb : Int), .slice pb nb cb]) rfl (by kernel_rfl) (by kernel_rfl) (by kernel_rfl) (fun _ _ _ h => hP _ _ _ _ _ h) (Or.inl ⟨by kernel_rfl, fun W hW => by have q0 := (Bb.onC hW).c0; have q1 := (Bb.onC hW).c1; go_simp⟩) h0 ?_
  try (simp only [Act.put, List.getElem_toArray, List.getElem_cons_succ, List.getElem_cons_zero, List.setIfInBounds_toArray, List.set_cons_zero, List.set_cons_succ])
  refine wpAnyH_take (i := 81) (oi := { dst := some 102, op := Op.load 27 (Operand.tmp 9), type := 27, pos := "law.go:74", after := #[{ on := 72, ground := Ground.guard }], guard := some (72, true) }) (v := .agg #[.int .u64 (lc : Int), .slice pc nc cc]) rfl (by kernel_rfl) (by kernel_rfl) (by kernel_rfl) (fun _ _ _ h => hP _ _ _ _ _ h) (Or.inl ⟨by kernel_rfl, fun W hW => by have q0 := (Bc.onC hW).c0; have q1 := (Bc.onC hW).c1; go_simp⟩) h0 ?_
  try (simp only [Act.put, List.getElem_toArray, List.getElem_cons_succ, List.getElem_cons_zero, List.setIfInBounds_toArray, List.set_cons_zero, List.set_cons_succ])
  refine wpAnyH_ready (rs := [76]) (by kernel_rfl) (by simp) ?_
  refine AllReadyH.cons (o := { dst := some 97, op := Op.call { callee := Callee.value (Operand.func 8), args := #[Operand.tmp 95, Operand.tmp 96], argTypes := #[27, 27] }, type := 27, pos := "law.go:74", after := #[{ on := 74, ground := Ground.data }, { on := 75, ground := Ground.data }, { on := 72, ground := Ground.chain }, { on := 72, ground := Ground.guard }], guard := some (72, true) }) rfl (fun K hK => ?_) AllReadyH.nil
  rw [if_pos (by kernel_rfl)]
  go_simp
  go_at_call 8
  refine (or_any _ _ _ B C (Hb.onC h0) (Hc.onC h0) SB SC).mono ?_
  rintro e W1 ⟨v97, rfl, hs, -, k⟩
  go_wp2_with fail
  have h1 : Kept (fun _ => False) w9 W1 := h0.then k
  refine hK.out _ _ h1 (fun _ => ?_)
  clear hK K
  have Ht97 := Lib.hid hs; clear hs
  clear k
  try (simp only [Act.put, List.getElem_toArray, List.getElem_cons_succ, List.getElem_cons_zero, List.setIfInBounds_toArray, List.set_cons_zero, List.set_cons_succ])
  refine wpAnyH_ready (rs := [77]) (by kernel_rfl) (by simp) ?_
  refine AllReadyH.cons (o := { dst := some 98, op := Op.call { callee := Callee.value (Operand.func 11), args := #[Operand.tmp 94, Operand.tmp 97], argTypes := #[27, 27] }, type := 27, pos := "law.go:74", after := #[{ on := 73, ground := Ground.data }, { on := 76, ground := Ground.data }, { on := 76, ground := Ground.chain }, { on := 72, ground := Ground.guard }], guard := some (72, true) }) rfl (fun K hK => ?_) AllReadyH.nil
  rw [if_pos (by kernel_rfl)]
  go_simp
  go_at_call 11
  refine (minus_any _ _ _ A (B ||| C) (Ha.onC h1) Ht97.out SA (small_or SB SC)).mono ?_
  rintro e W2 ⟨v98, rfl, hs, -, k⟩
  go_wp2_with fail
  have h2 : Kept (fun _ => False) w9 W2 := h1.then k
  refine hK.out _ _ h2 (fun _ => ?_)
  clear hK K
  clear Ht97
  have Ht98 := Lib.hid hs; clear hs
  clear k
  try (simp only [Act.put, List.getElem_toArray, List.getElem_cons_succ, List.getElem_cons_zero, List.setIfInBounds_toArray, List.set_cons_zero, List.set_cons_succ])
  refine wpAnyH_ready (rs := [80]) (by kernel_rfl) (by simp) ?_
  refine AllReadyH.cons (o := { dst := some 101, op := Op.call { callee := Callee.value (Operand.func 11), args := #[Operand.tmp 99, Operand.tmp 100], argTypes := #[27, 27] }, type := 27, pos := "law.go:74", after := #[{ on := 78, ground := Ground.data }, { on := 79, ground := Ground.data }, { on := 77, ground := Ground.chain }, { on := 72, ground := Ground.guard }], guard := some (72, true) }) rfl (fun K hK => ?_) AllReadyH.nil
  rw [if_pos (by kernel_rfl)]
  go_simp
  go_at_call 11
  refine (minus_any _ _ _ A B (Ha.onC h2) (Hb.onC h2) SA SB).mono ?_
  rintro e W3 ⟨v101, rfl, hs, -, k⟩
  go_wp2_with fail
  have h3 : Kept (fun _ => False) w9 W3 := h2.then k
  refine hK.out _ _ h3 (fun _ => ?_)
  clear hK K
  replace Ht98 := Lib.hid (Ht98.out.onC k)
  have Ht101 := Lib.hid hs; clear hs
  clear k
  try (simp only [Act.put, List.getElem_toArray, List.getElem_cons_succ, List.getElem_cons_zero, List.setIfInBounds_toArray, List.set_cons_zero, List.set_cons_succ])
  refine wpAnyH_ready (rs := [82]) (by kernel_rfl) (by simp) ?_
  refine AllReadyH.cons (o := { dst := some 103, op := Op.call { callee := Callee.value (Operand.func 11), args := #[Operand.tmp 101, Operand.tmp 102], argTypes := #[27, 27] }, type := 27, pos := "law.go:74", after := #[{ on := 80, ground := Ground.data }, { on := 81, ground := Ground.data }, { on := 80, ground := Ground.chain }, { on := 72, ground := Ground.guard }], guard := some (72, true) }) rfl (fun K hK => ?_) AllReadyH.nil
  rw [if_pos (by kernel_rfl)]
  go_simp
  go_at_call 11
  refine (minus_any _ _ _ (anN A B) C Ht101.out (Hc.onC h3) (small_an SA) SC).mono ?_
  rintro e W4 ⟨v103, rfl, hs, -, k⟩
  go_wp2_with fail
  have h4 : Kept (fun _ => False) w9 W4 := h3.then k
  refine hK.out _ _ h4 (fun _ => ?_)
  clear hK K
  replace Ht98 := Lib.hid (Ht98.out.onC k)
  clear Ht101
  have Ht103 := Lib.hid hs; clear hs
  clear k
  try (simp only [Act.put, List.getElem_toArray, List.getElem_cons_succ, List.getElem_cons_zero, List.setIfInBounds_toArray, List.set_cons_zero, List.set_cons_succ])
  refine wpAnyH_ready (rs := [83]) (by kernel_rfl) (by simp) ?_
  refine AllReadyH.cons (o := { dst := some 104, op := Op.call { callee := Callee.value (Operand.func 9), args := #[Operand.tmp 98, Operand.tmp 103], argTypes := #[27, 27] }, type := 4, pos := "law.go:74", after := #[{ on := 77, ground := Ground.data }, { on := 82, ground := Ground.data }, { on := 82, ground := Ground.chain }, { on := 72, ground := Ground.guard }], guard := some (72, true) }) rfl (fun K hK => ?_) AllReadyH.nil
  rw [if_pos (by kernel_rfl)]
  go_simp
  go_at_call 9
  refine (equal_any _ _ _ (anN A (B ||| C)) (anN (anN A B) C) Ht98.out Ht103.out).mono ?_
  rintro e W5 ⟨rfl, k⟩
  rw [show decide ((anN A (B ||| C)) = (anN (anN A B) C)) = true from decide_eq_true (bl_6 A B C)]
  go_wp2_with fail
  have h5 : Kept (fun _ => False) w9 W5 := h4.then k
  refine hK.out _ _ h5 (fun _ => ?_)
  clear hK K
  clear Ht98
  clear Ht103
  clear k
  try (simp only [Act.put, List.getElem_toArray, List.getElem_cons_succ, List.getElem_cons_zero, List.setIfInBounds_toArray, List.set_cons_zero, List.set_cons_succ])
  refine wpAnyH_take (i := 84) (oi := { dst := some 105, op := Op.pick (Operand.tmp 93) (Operand.tmp 104) (Operand.const (Value.bool false)), type := 4, pos := "law.go:74", after := #[{ on := 72, ground := Ground.data }, { on := 83, ground := Ground.data }], guard := none }) (v := .bool true) rfl (by kernel_rfl) (by kernel_rfl) (by kernel_rfl) (fun _ _ _ h => hP _ _ _ _ _ h) (Or.inl ⟨by kernel_rfl, fun W hW => by go_simp⟩) h5 ?_
  try (simp only [Act.put, List.getElem_toArray, List.getElem_cons_succ, List.getElem_cons_zero, List.setIfInBounds_toArray, List.set_cons_zero, List.set_cons_succ])
  refine cast_listed (l2 := (List.replicate 85 true ++ List.replicate 36 false).toArray) (by kernel_rfl) ?_
  exact blw_7 w9 g7 g8 g9 la na ca lb nb cb lc nc cc A B C pa pb pc Ba Bb Bc Ha Hb Hc SA SB SC Q hP hQ _ _ _ _ _ _ _ _ _ _ _ _ _ _ _ _ _ _ _ _ _ _ _ _ _ _ _ _ _ _ _ _ _ _ _ _ _ _ _ _ _ _ _ _ _ _ _ _ _ _ _ _ _ _ _ _ _ _ _ _ _ _ _ _ _ _ _ _ _ _ _ _ _ _ _ _ _ _ _ _ _ _ _ _ _ _ _ _ _ _ _ _ _ _ _ _ _ _ _ _ _ _ _ _ _ _ _ _ _ _ _ _ _ _ _ _ _ _ _ _ _ _ _ _ _ _ _ _ _ _ _ _ _ _ _ _ _ _ h5
end Go.Proofs.YtkgpnnegjhnjdaaDoor
/-
  arbaclaw01.BitsLaws: conjunct 5 of its region. Made by mk_bl3.py.
-/
namespace Go.Proofs.YtkgpnnegjhnjdaaDoor
open Go.RowKit
set_option linter.unusedSimpArgs false
set_option linter.unusedVariables false

set_option maxRecDepth 100000 in
set_option maxHeartbeats 6400000 in
theorem blw_5 (w9 : World) (g7 g8 g9 la na ca lb nb cb lc nc cc A B C : Nat) (pa pb pc : Option Addr)
    (Ba : BoxAt w9 g7 la (.slice pa na ca)) (Bb : BoxAt w9 g8 lb (.slice pb nb cb)) (Bc : BoxAt w9 g9 lc (.slice pc nc cc))
    (Ha : SetV w9 (.agg #[.int .u64 (la : Int), .slice pa na ca]) A) (Hb : SetV w9 (.agg #[.int .u64 (lb : Int), .slice pb nb cb]) B) (Hc : SetV w9 (.agg #[.int .u64 (lc : Int), .slice pc nc cc]) C)
    (SA : Small A) (SB : Small B) (SC : Small C) (Q : Exit → Act → World → Prop) (hP : ∀ (c : _) (a : Act) (d : Option Tmp) (v : Value) (w : World), Q (.panic c) (a.put d v) w → Q (.panic c) a w) (hQ : ∀ (u0 u1 u2 u3 u4 u5 u7 u8 u9 u10 u11 u12 u13 u14 u15 u16 u17 u18 u19 u20 u21 u22 u23 u24 u25 u26 u27 u28 u29 u30 u31 u32 u33 u34 u35 u36 u37 u38 u39 u40 u41 u42 u43 u44 u45 u46 u47 u48 u49 u50 u51 u52 u53 u54 u55 u56 u57 u58 u59 u60 u61 u62 u63 u64 u65 u66 u67 u68 u69 u70 u71 u72 u73 u74 u75 u76 u77 u78 u79 u80 u81 u82 u83 u84 u85 u86 u87 u88 u89 u90 u91 u92 u93 u94 u95 u96 u97 u98 u99 u100 u101 u102 u103 u104 u105 u106 u107 u108 u109 u110 u111 u112 u113 u114 u115 u116 u117 u118 u119 u120 u121 u122 u123 u124 u125 u126 u127 u128 u129 u130 u131 u132 u133 u134 u135 u136 u137 u138 u139 u140 : Value) (W : World), Kept (fun _ => False) w9 W → Q .normal { tmps := List.toArray (u0 :: u1 :: u2 :: u3 :: u4 :: u5 :: .bool true :: u7 :: u8 :: u9 :: u10 :: u11 :: u12 :: u13 :: u14 :: u15 :: u16 :: u17 :: u18 :: u19 :: u20 :: u21 :: u22 :: u23 :: u24 :: u25 :: u26 :: u27 :: u28 :: u29 :: u30 :: u31 :: u32 :: u33 :: u34 :: u35 :: u36 :: u37 :: u38 :: u39 :: u40 :: u41 :: u42 :: u43 :: u44 :: u45 :: u46 :: u47 :: u48 :: u49 :: u50 :: u51 :: u52 :: u53 :: u54 :: u55 :: u56 :: u57 :: u58 :: u59 :: u60 :: u61 :: u62 :: u63 :: u64 :: u65 :: u66 :: u67 :: u68 :: u69 :: u70 :: u71 :: u72 :: u73 :: u74 :: u75 :: u76 :: u77 :: u78 :: u79 :: u80 :: u81 :: u82 :: u83 :: u84 :: u85 :: u86 :: u87 :: u88 :: u89 :: u90 :: u91 :: u92 :: u93 :: u94 :: u95 :: u96 :: u97 :: u98 :: u99 :: u100 :: u101 :: u102 :: u103 :: u104 :: u105 :: u106 :: u107 :: u108 :: u109 :: u110 :: u111 :: u112 :: u113 :: u114 :: u115 :: u116 :: u117 :: u118 :: u119 :: u120 :: u121 :: u122 :: u123 :: u124 :: u125 :: u126 :: u127 :: u128 :: u129 :: u130 :: u131 :: u132 :: u133 :: u134 :: u135 :: u136 :: u137 :: u138 :: u139 :: u140 :: []), defers := [] } W)
    (u0 u1 u2 u3 u4 u5 u6 u10 u11 u12 u13 u14 u15 u16 u17 u18 u19 u20 u21 u22 u23 u24 u25 u26 u27 u28 u29 u30 u31 u32 u33 u34 u35 u36 u37 u38 u39 u40 u41 u42 u43 u44 u45 u46 u47 u48 u49 u50 u51 u52 u53 u54 u55 u56 u57 u58 u59 u60 u61 u62 u63 u64 u65 u66 u67 u68 u69 u70 u71 u72 u73 u74 u75 u76 u78 u79 u80 u81 u82 u83 u84 u85 u86 u87 u88 u89 u90 u91 u92 u93 u94 u95 u96 u97 u98 u99 u100 u101 u102 u103 u104 u105 u106 u107 u108 u109 u110 u111 u112 u113 u114 u115 u116 u117 u118 u119 u120 u121 u122 u123 u124 u125 u126 u127 u128 u129 u130 u131 u132 u133 u134 u135 u136 u137 u138 u139 u140 : Value) (W0 : World) (h0 : Kept (fun _ => False) w9 W0) :
    wpAnyH Tryd.prog .any opsL Q (fun W => Kept (fun _ => False) w9 W) 64 (List.replicate 57 true ++ List.replicate 64 false).toArray { tmps := List.toArray (u0 :: u1 :: u2 :: u3 :: u4 :: u5 :: u6 :: .pointer (some ⟨g7, 0, none⟩) :: .pointer (some ⟨g8, 0, none⟩) :: .pointer (some ⟨g9, 0, none⟩) :: u10 :: u11 :: u12 :: u13 :: u14 :: u15 :: u16 :: u17 :: u18 :: u19 :: u20 :: u21 :: u22 :: u23 :: u24 :: u25 :: u26 :: u27 :: u28 :: u29 :: u30 :: u31 :: u32 :: u33 :: u34 :: u35 :: u36 :: u37 :: u38 :: u39 :: u40 :: u41 :: u42 :: u43 :: u44 :: u45 :: u46 :: u47 :: u48 :: u49 :: u50 :: u51 :: u52 :: u53 :: u54 :: u55 :: u56 :: u57 :: u58 :: u59 :: u60 :: u61 :: u62 :: u63 :: u64 :: u65 :: u66 :: u67 :: u68 :: u69 :: u70 :: u71 :: u72 :: u73 :: u74 :: u75 :: u76 :: .bool true :: u78 :: u79 :: u80 :: u81 :: u82 :: u83 :: u84 :: u85 :: u86 :: u87 :: u88 :: u89 :: u90 :: u91 :: u92 :: u93 :: u94 :: u95 :: u96 :: u97 :: u98 :: u99 :: u100 :: u101 :: u102 :: u103 :: u104 :: u105 :: u106 :: u107 :: u108 :: u109 :: u110 :: u111 :: u112 :: u113 :: u114 :: u115 :: u116 :: u117 :: u118 :: u119 :: u120 :: u121 :: u122 :: u123 :: u124 :: u125 :: u126 :: u127 :: u128 :: u129 :: u130 :: u131 :: u132 :: u133 :: u134 :: u135 :: u136 :: u137 :: u138 :: u139 :: u140 :: []), defers := [] } W0 := by
  refine wpAnyH_take (i := 57) (oi := { dst := some 78, op := Op.move (Operand.tmp 77), type := 4, pos := "law.go:74", after := #[{ on := 56, ground := Ground.data }, { on := 55, ground := Ground.chain }], guard := none }) (v := .bool true) rfl (by kernel_rfl) (by kernel_rfl) (by kernel_rfl) (fun _ _ _ h => hP _ _ _ _ _ h) (Or.inl ⟨by kernel_rfl, fun W hW => by go_simp⟩) h0 ?_
  try (simp only [Act.put, List.getElem_toArray, List.getElem_cons_succ, List.getElem_cons_zero, List.setIfInBounds_toArray, List.set_cons_zero, List.set_cons_succ])
  refine wpAnyH_take (i := 58) (oi := { dst := some 79, op := Op.load 27 (Operand.tmp 7), type := 27, pos := "law.go:74", after := #[{ on := 57, ground := Ground.guard }], guard := some (57, true) }) (v := .agg #[.int .u64 (la : Int), .slice pa na ca]) rfl (by kernel_rfl) (by kernel_rfl) (by kernel_rfl) (fun _ _ _ h => hP _ _ _ _ _ h) (Or.inl ⟨by kernel_rfl, fun W hW => by have q0 := (Ba.onC hW).c0; have q1 := (Ba.onC hW).c1; go_simp⟩) h0 ?_
  try (simp only [Act.put, List.getElem_toArray, List.getElem_cons_succ, List.getElem_cons_zero, List.setIfInBounds_toArray, List.set_cons_zero, List.set_cons_succ])
  refine wpAnyH_take (i := 59) (oi := { dst := some 80, op := Op.load 27 (Operand.tmp 8), type := 27, pos := "law.go:74", after := #[{ on := 57, ground := Ground.guard }], guard := some (57, true) }) (v := .agg #[.int .u64 (lb : Int), .slice pb nb cb]) rfl (by kernel_rfl) (by kernel_rfl) (by kernel_rfl) (fun _ _ _ h => hP _ _ _ _ _ h) (Or.inl ⟨by kernel_rfl, fun W hW => by have q0 := (Bb.onC hW).c0; have q1 := (Bb.onC hW).c1; go_simp⟩) h0 ?_
  try (simp only [Act.put, List.getElem_toArray, List.getElem_cons_succ, List.getElem_cons_zero, List.setIfInBounds_toArray, List.set_cons_zero, List.set_cons_succ])
  refine wpAnyH_take (i := 60) (oi := { dst := some 81, op := Op.load 27 (Operand.tmp 9), type := 27, pos := "law.go:74", after := #[{ on := 57, ground := Ground.guard }], guard := some (57, true) }) (v := .agg #[.int .u64 (lc : Int), .slice pc nc cc]) rfl (by kernel_rfl) (by kernel_rfl) (by kernel_rfl) (fun _ _ _ h => hP _ _ _ _ _ h) (Or.inl ⟨by kernel_rfl, fun W hW => by have q0 := (Bc.onC hW).c0; have q1 := (Bc.onC hW).c1; go_simp⟩) h0 ?_
  try (simp only [Act.put, List.getElem_toArray, List.getElem_cons_succ, List.getElem_cons_zero, List.setIfInBounds_toArray, List.set_cons_zero, List.set_cons_succ])
  refine wpAnyH_take (i := 63) (oi := { dst := some 84, op := Op.load 27 (Operand.tmp 7), type := 27, pos := "law.go:74", after := #[{ on := 57, ground := Ground.guard }], guard := some (57, true) }) (v := .agg #[.int .u64 (la : Int), .slice pa na ca]) rfl (by kernel_rfl) (by kernel_rfl) (by kernel_rfl) (fun _ _ _ h => hP _ _ _ _ _ h) (Or.inl ⟨by kernel_rfl, fun W hW => by have q0 := (Ba.onC hW).c0; have q1 := (Ba.onC hW).c1; go_simp⟩) h0 ?_
  try (simp only [Act.put, List.getElem_toArray, List.getElem_cons_succ, List.getElem_cons_zero, List.setIfInBounds_toArray, List.set_cons_zero, List.set_cons_succ])
  refine wpAnyH_take (i := 64) (oi := { dst := some 85, op := Op.load 27 (Operand.tmp 8), type := 27, pos := "law.go:74", after := #[{ on := 57, ground := Ground.guard }], guard := some (57, true) }) (v := .agg #[.int .u64 (lb : Int), .slice pb nb cb]) rfl (by kernel_rfl) (by kernel_rfl) (by kernel_rfl) (fun _ _ _ h => hP _ _ _ _ _ h) (Or.inl ⟨by kernel_rfl, fun W hW => by have q0 := (Bb.onC hW).c0; have q1 := (Bb.onC hW).c1; go_simp⟩) h0 ?_
  try (simp only [Act.put, List.getElem_toArray, List.getElem_cons_succ, List.getElem_cons_zero, List.setIfInBounds_toArray, List.set_cons_zero, List.set_cons_succ])
  refine wpAnyH_take (i := 66) (oi := { dst := some 87, op := Op.load 27 (Operand.tmp 7), type := 27, pos := "law.go:74", after := #[{ on := 57, ground := Ground.guard }], guard := some (57, true) }) (v := .agg #[.int .u64 (la : Int), .slice pa na ca]) rfl (by kernel_rfl) (by kernel_rfl) (by kernel_rfl) (fun _ _ _ h => hP _ _ _ _ _ h) (Or.inl ⟨by kernel_rfl, fun W hW => by have q0 := (Ba.onC hW).c0; have q1 := (Ba.onC hW).c1; go_simp⟩) h0 ?_
  try (simp only [Act.put, List.getElem_toArray, List.getElem_cons_succ, List.getElem_cons_zero, List.setIfInBounds_toArray, List.set_cons_zero, List.set_cons_succ])
  refine wpAnyH_take (i := 67) (oi := { dst := some 88, op := Op.load 27 (Operand.tmp 9), type := 27, pos := "law.go:74", after := #[{ on := 57, ground := Ground.guard }], guard := some (57, true) }) (v := .agg #[.int .u64 (lc : Int), .slice pc nc cc]) rfl (by kernel_rfl) (by kernel_rfl) (by kernel_rfl) (fun _ _ _ h => hP _ _ _ _ _ h) (Or.inl ⟨by kernel_rfl, fun W hW => by have q0 := (Bc.onC hW).c0; have q1 := (Bc.onC hW).c1; go_simp⟩) h0 ?_
  try (simp only [Act.put, List.getElem_toArray, List.getElem_cons_succ, List.getElem_cons_zero, List.setIfInBounds_toArray, List.set_cons_zero, List.set_cons_succ])
  refine wpAnyH_ready (rs := [61]) (by kernel_rfl) (by simp) ?_
  refine AllReadyH.cons (o := { dst := some 82, op := Op.call { callee := Callee.value (Operand.func 10), args := #[Operand.tmp 80, Operand.tmp 81], argTypes := #[27, 27] }, type := 27, pos := "law.go:74", after := #[{ on := 59, ground := Ground.data }, { on := 60, ground := Ground.data }, { on := 57, ground := Ground.chain }, { on := 57, ground := Ground.guard }], guard := some (57, true) }) rfl (fun K hK => ?_) AllReadyH.nil
  rw [if_pos (by kernel_rfl)]
  go_simp
  go_at_call 10
  refine (and_any _ _ _ B C (Hb.onC h0) (Hc.onC h0) SB SC).mono ?_
  rintro e W1 ⟨v82, rfl, hs, -, k⟩
  go_wp2_with fail
  have h1 : Kept (fun _ => False) w9 W1 := h0.then k
  refine hK.out _ _ h1 (fun _ => ?_)
  clear hK K
  have Ht82 := Lib.hid hs; clear hs
  clear k
  try (simp only [Act.put, List.getElem_toArray, List.getElem_cons_succ, List.getElem_cons_zero, List.setIfInBounds_toArray, List.set_cons_zero, List.set_cons_succ])
  refine wpAnyH_ready (rs := [62]) (by kernel_rfl) (by simp) ?_
  refine AllReadyH.cons (o := { dst := some 83, op := Op.call { callee := Callee.value (Operand.func 8), args := #[Operand.tmp 79, Operand.tmp 82], argTypes := #[27, 27] }, type := 27, pos := "law.go:74", after := #[{ on := 58, ground := Ground.data }, { on := 61, ground := Ground.data }, { on := 61, ground := Ground.chain }, { on := 57, ground := Ground.guard }], guard := some (57, true) }) rfl (fun K hK => ?_) AllReadyH.nil
  rw [if_pos (by kernel_rfl)]
  go_simp
  go_at_call 8
  refine (or_any _ _ _ A (B &&& C) (Ha.onC h1) Ht82.out SA (small_and SB)).mono ?_
  rintro e W2 ⟨v83, rfl, hs, -, k⟩
  go_wp2_with fail
  have h2 : Kept (fun _ => False) w9 W2 := h1.then k
  refine hK.out _ _ h2 (fun _ => ?_)
  clear hK K
  clear Ht82
  have Ht83 := Lib.hid hs; clear hs
  clear k
  try (simp only [Act.put, List.getElem_toArray, List.getElem_cons_succ, List.getElem_cons_zero, List.setIfInBounds_toArray, List.set_cons_zero, List.set_cons_succ])
  refine wpAnyH_ready (rs := [65]) (by kernel_rfl) (by simp) ?_
  refine AllReadyH.cons (o := { dst := some 86, op := Op.call { callee := Callee.value (Operand.func 8), args := #[Operand.tmp 84, Operand.tmp 85], argTypes := #[27, 27] }, type := 27, pos := "law.go:74", after := #[{ on := 63, ground := Ground.data }, { on := 64, ground := Ground.data }, { on := 62, ground := Ground.chain }, { on := 57, ground := Ground.guard }], guard := some (57, true) }) rfl (fun K hK => ?_) AllReadyH.nil
  rw [if_pos (by kernel_rfl)]
  go_simp
  go_at_call 8
  refine (or_any _ _ _ A B (Ha.onC h2) (Hb.onC h2) SA SB).mono ?_
  rintro e W3 ⟨v86, rfl, hs, -, k⟩
  go_wp2_with fail
  have h3 : Kept (fun _ => False) w9 W3 := h2.then k
  refine hK.out _ _ h3 (fun _ => ?_)
  clear hK K
  replace Ht83 := Lib.hid (Ht83.out.onC k)
  have Ht86 := Lib.hid hs; clear hs
  clear k
  try (simp only [Act.put, List.getElem_toArray, List.getElem_cons_succ, List.getElem_cons_zero, List.setIfInBounds_toArray, List.set_cons_zero, List.set_cons_succ])
  refine wpAnyH_ready (rs := [68]) (by kernel_rfl) (by simp) ?_
  refine AllReadyH.cons (o := { dst := some 89, op := Op.call { callee := Callee.value (Operand.func 8), args := #[Operand.tmp 87, Operand.tmp 88], argTypes := #[27, 27] }, type := 27, pos := "law.go:74", after := #[{ on := 66, ground := Ground.data }, { on := 67, ground := Ground.data }, { on := 65, ground := Ground.chain }, { on := 57, ground := Ground.guard }], guard := some (57, true) }) rfl (fun K hK => ?_) AllReadyH.nil
  rw [if_pos (by kernel_rfl)]
  go_simp
  go_at_call 8
  refine (or_any _ _ _ A C (Ha.onC h3) (Hc.onC h3) SA SC).mono ?_
  rintro e W4 ⟨v89, rfl, hs, -, k⟩
  go_wp2_with fail
  have h4 : Kept (fun _ => False) w9 W4 := h3.then k
  refine hK.out _ _ h4 (fun _ => ?_)
  clear hK K
  replace Ht83 := Lib.hid (Ht83.out.onC k)
  replace Ht86 := Lib.hid (Ht86.out.onC k)
  have Ht89 := Lib.hid hs; clear hs
  clear k
  try (simp only [Act.put, List.getElem_toArray, List.getElem_cons_succ, List.getElem_cons_zero, List.setIfInBounds_toArray, List.set_cons_zero, List.set_cons_succ])
  refine wpAnyH_ready (rs := [69]) (by kernel_rfl) (by simp) ?_
  refine AllReadyH.cons (o := { dst := some 90, op := Op.call { callee := Callee.value (Operand.func 10), args := #[Operand.tmp 86, Operand.tmp 89], argTypes := #[27, 27] }, type := 27, pos := "law.go:74", after := #[{ on := 65, ground := Ground.data }, { on := 68, ground := Ground.data }, { on := 68, ground := Ground.chain }, { on := 57, ground := Ground.guard }], guard := some (57, true) }) rfl (fun K hK => ?_) AllReadyH.nil
  rw [if_pos (by kernel_rfl)]
  go_simp
  go_at_call 10
  refine (and_any _ _ _ (A ||| B) (A ||| C) Ht86.out Ht89.out (small_or SA SB) (small_or SA SC)).mono ?_
  rintro e W5 ⟨v90, rfl, hs, -, k⟩
  go_wp2_with fail
  have h5 : Kept (fun _ => False) w9 W5 := h4.then k
  refine hK.out _ _ h5 (fun _ => ?_)
  clear hK K
  replace Ht83 := Lib.hid (Ht83.out.onC k)
  clear Ht86
  clear Ht89
  have Ht90 := Lib.hid hs; clear hs
  clear k
  try (simp only [Act.put, List.getElem_toArray, List.getElem_cons_succ, List.getElem_cons_zero, List.setIfInBounds_toArray, List.set_cons_zero, List.set_cons_succ])
  refine wpAnyH_ready (rs := [70]) (by kernel_rfl) (by simp) ?_
  refine AllReadyH.cons (o := { dst := some 91, op := Op.call { callee := Callee.value (Operand.func 9), args := #[Operand.tmp 83, Operand.tmp 90], argTypes := #[27, 27] }, type := 4, pos := "law.go:74", after := #[{ on := 62, ground := Ground.data }, { on := 69, ground := Ground.data }, { on := 69, ground := Ground.chain }, { on := 57, ground := Ground.guard }], guard := some (57, true) }) rfl (fun K hK => ?_) AllReadyH.nil
  rw [if_pos (by kernel_rfl)]
  go_simp
  go_at_call 9
  refine (equal_any _ _ _ (A ||| (B &&& C)) ((A ||| B) &&& (A ||| C)) Ht83.out Ht90.out).mono ?_
  rintro e W6 ⟨rfl, k⟩
  rw [show decide ((A ||| (B &&& C)) = ((A ||| B) &&& (A ||| C))) = true from decide_eq_true (bl_5 A B C)]
  go_wp2_with fail
  have h6 : Kept (fun _ => False) w9 W6 := h5.then k
  refine hK.out _ _ h6 (fun _ => ?_)
  clear hK K
  clear Ht83
  clear Ht90
  clear k
  try (simp only [Act.put, List.getElem_toArray, List.getElem_cons_succ, List.getElem_cons_zero, List.setIfInBounds_toArray, List.set_cons_zero, List.set_cons_succ])
  refine wpAnyH_take (i := 71) (oi := { dst := some 92, op := Op.pick (Operand.tmp 78) (Operand.tmp 91) (Operand.const (Value.bool false)), type := 4, pos := "law.go:74", after := #[{ on := 57, ground := Ground.data }, { on := 70, ground := Ground.data }], guard := none }) (v := .bool true) rfl (by kernel_rfl) (by kernel_rfl) (by kernel_rfl) (fun _ _ _ h => hP _ _ _ _ _ h) (Or.inl ⟨by kernel_rfl, fun W hW => by go_simp⟩) h6 ?_
  try (simp only [Act.put, List.getElem_toArray, List.getElem_cons_succ, List.getElem_cons_zero, List.setIfInBounds_toArray, List.set_cons_zero, List.set_cons_succ])
  refine cast_listed (l2 := (List.replicate 72 true ++ List.replicate 49 false).toArray) (by kernel_rfl) ?_
  exact blw_6 w9 g7 g8 g9 la na ca lb nb cb lc nc cc A B C pa pb pc Ba Bb Bc Ha Hb Hc SA SB SC Q hP hQ _ _ _ _ _ _ _ _ _ _ _ _ _ _ _ _ _ _ _ _ _ _ _ _ _ _ _ _ _ _ _ _ _ _ _ _ _ _ _ _ _ _ _ _ _ _ _ _ _ _ _ _ _ _ _ _ _ _ _ _ _ _ _ _ _ _ _ _ _ _ _ _ _ _ _ _ _ _ _ _ _ _ _ _ _ _ _ _ _ _ _ _ _ _ _ _ _ _ _ _ _ _ _ _ _ _ _ _ _ _ _ _ _ _ _ _ _ _ _ _ _ _ _ _ _ _ _ _ _ _ _ _ _ _ _ _ _ _ h6
end Go.Proofs.YtkgpnnegjhnjdaaDoor
/-
  arbaclaw01.BitsLaws: conjunct 4 of its region. Made by mk_bl3.py.
-/
namespace Go.Proofs.YtkgpnnegjhnjdaaDoor
open Go.RowKit
set_option linter.unusedSimpArgs false
set_option linter.unusedVariables false

set_option maxRecDepth 100000 in
set_option maxHeartbeats 6400000 in
theorem blw_4 (w9 : World) (g7 g8 g9 la na ca lb nb cb lc nc cc A B C : Nat) (pa pb pc : Option Addr)
    (Ba : BoxAt w9 g7 la (.slice pa na ca)) (Bb : BoxAt w9 g8 lb (.slice pb nb cb)) (Bc : BoxAt w9 g9 lc (.slice pc nc cc))
    (Ha : SetV w9 (.agg #[.int .u64 (la : Int), .slice pa na ca]) A) (Hb : SetV w9 (.agg #[.int .u64 (lb : Int), .slice pb nb cb]) B) (Hc : SetV w9 (.agg #[.int .u64 (lc : Int), .slice pc nc cc]) C)
    (SA : Small A) (SB : Small B) (SC : Small C) (Q : Exit → Act → World → Prop) (hP : ∀ (c : _) (a : Act) (d : Option Tmp) (v : Value) (w : World), Q (.panic c) (a.put d v) w → Q (.panic c) a w) (hQ : ∀ (u0 u1 u2 u3 u4 u5 u7 u8 u9 u10 u11 u12 u13 u14 u15 u16 u17 u18 u19 u20 u21 u22 u23 u24 u25 u26 u27 u28 u29 u30 u31 u32 u33 u34 u35 u36 u37 u38 u39 u40 u41 u42 u43 u44 u45 u46 u47 u48 u49 u50 u51 u52 u53 u54 u55 u56 u57 u58 u59 u60 u61 u62 u63 u64 u65 u66 u67 u68 u69 u70 u71 u72 u73 u74 u75 u76 u77 u78 u79 u80 u81 u82 u83 u84 u85 u86 u87 u88 u89 u90 u91 u92 u93 u94 u95 u96 u97 u98 u99 u100 u101 u102 u103 u104 u105 u106 u107 u108 u109 u110 u111 u112 u113 u114 u115 u116 u117 u118 u119 u120 u121 u122 u123 u124 u125 u126 u127 u128 u129 u130 u131 u132 u133 u134 u135 u136 u137 u138 u139 u140 : Value) (W : World), Kept (fun _ => False) w9 W → Q .normal { tmps := List.toArray (u0 :: u1 :: u2 :: u3 :: u4 :: u5 :: .bool true :: u7 :: u8 :: u9 :: u10 :: u11 :: u12 :: u13 :: u14 :: u15 :: u16 :: u17 :: u18 :: u19 :: u20 :: u21 :: u22 :: u23 :: u24 :: u25 :: u26 :: u27 :: u28 :: u29 :: u30 :: u31 :: u32 :: u33 :: u34 :: u35 :: u36 :: u37 :: u38 :: u39 :: u40 :: u41 :: u42 :: u43 :: u44 :: u45 :: u46 :: u47 :: u48 :: u49 :: u50 :: u51 :: u52 :: u53 :: u54 :: u55 :: u56 :: u57 :: u58 :: u59 :: u60 :: u61 :: u62 :: u63 :: u64 :: u65 :: u66 :: u67 :: u68 :: u69 :: u70 :: u71 :: u72 :: u73 :: u74 :: u75 :: u76 :: u77 :: u78 :: u79 :: u80 :: u81 :: u82 :: u83 :: u84 :: u85 :: u86 :: u87 :: u88 :: u89 :: u90 :: u91 :: u92 :: u93 :: u94 :: u95 :: u96 :: u97 :: u98 :: u99 :: u100 :: u101 :: u102 :: u103 :: u104 :: u105 :: u106 :: u107 :: u108 :: u109 :: u110 :: u111 :: u112 :: u113 :: u114 :: u115 :: u116 :: u117 :: u118 :: u119 :: u120 :: u121 :: u122 :: u123 :: u124 :: u125 :: u126 :: u127 :: u128 :: u129 :: u130 :: u131 :: u132 :: u133 :: u134 :: u135 :: u136 :: u137 :: u138 :: u139 :: u140 :: []), defers := [] } W)
    (u0 u1 u2 u3 u4 u5 u6 u10 u11 u12 u13 u14 u15 u16 u17 u18 u19 u20 u21 u22 u23 u24 u25 u26 u27 u28 u29 u30 u31 u32 u33 u34 u35 u36 u37 u38 u39 u40 u41 u42 u43 u44 u45 u46 u47 u48 u49 u50 u51 u52 u53 u54 u55 u56 u57 u58 u59 u60 u61 u63 u64 u65 u66 u67 u68 u69 u70 u71 u72 u73 u74 u75 u76 u77 u78 u79 u80 u81 u82 u83 u84 u85 u86 u87 u88 u89 u90 u91 u92 u93 u94 u95 u96 u97 u98 u99 u100 u101 u102 u103 u104 u105 u106 u107 u108 u109 u110 u111 u112 u113 u114 u115 u116 u117 u118 u119 u120 u121 u122 u123 u124 u125 u126 u127 u128 u129 u130 u131 u132 u133 u134 u135 u136 u137 u138 u139 u140 : Value) (W0 : World) (h0 : Kept (fun _ => False) w9 W0) :
    wpAnyH Tryd.prog .any opsL Q (fun W => Kept (fun _ => False) w9 W) 79 (List.replicate 42 true ++ List.replicate 79 false).toArray { tmps := List.toArray (u0 :: u1 :: u2 :: u3 :: u4 :: u5 :: u6 :: .pointer (some ⟨g7, 0, none⟩) :: .pointer (some ⟨g8, 0, none⟩) :: .pointer (some ⟨g9, 0, none⟩) :: u10 :: u11 :: u12 :: u13 :: u14 :: u15 :: u16 :: u17 :: u18 :: u19 :: u20 :: u21 :: u22 :: u23 :: u24 :: u25 :: u26 :: u27 :: u28 :: u29 :: u30 :: u31 :: u32 :: u33 :: u34 :: u35 :: u36 :: u37 :: u38 :: u39 :: u40 :: u41 :: u42 :: u43 :: u44 :: u45 :: u46 :: u47 :: u48 :: u49 :: u50 :: u51 :: u52 :: u53 :: u54 :: u55 :: u56 :: u57 :: u58 :: u59 :: u60 :: u61 :: .bool true :: u63 :: u64 :: u65 :: u66 :: u67 :: u68 :: u69 :: u70 :: u71 :: u72 :: u73 :: u74 :: u75 :: u76 :: u77 :: u78 :: u79 :: u80 :: u81 :: u82 :: u83 :: u84 :: u85 :: u86 :: u87 :: u88 :: u89 :: u90 :: u91 :: u92 :: u93 :: u94 :: u95 :: u96 :: u97 :: u98 :: u99 :: u100 :: u101 :: u102 :: u103 :: u104 :: u105 :: u106 :: u107 :: u108 :: u109 :: u110 :: u111 :: u112 :: u113 :: u114 :: u115 :: u116 :: u117 :: u118 :: u119 :: u120 :: u121 :: u122 :: u123 :: u124 :: u125 :: u126 :: u127 :: u128 :: u129 :: u130 :: u131 :: u132 :: u133 :: u134 :: u135 :: u136 :: u137 :: u138 :: u139 :: u140 :: []), defers := [] } W0 := by
  refine wpAnyH_take (i := 42) (oi := { dst := some 63, op := Op.move (Operand.tmp 62), type := 4, pos := "law.go:74", after := #[{ on := 41, ground := Ground.data }, { on := 40, ground := Ground.chain }], guard := none }) (v := .bool true) rfl (by kernel_rfl) (by kernel_rfl) (by kernel_rfl) (fun _ _ _ h => hP _ _ _ _ _ h) (Or.inl ⟨by kernel_rfl, fun W hW => by go_simp⟩) h0 ?_
  try (simp only [Act.put, List.getElem_toArray, List.getElem_cons_succ, List.getElem_cons_zero, List.setIfInBounds_toArray, List.set_cons_zero, List.set_cons_succ])
  refine wpAnyH_take (i := 43) (oi := { dst := some 64, op := Op.load 27 (Operand.tmp 7), type := 27, pos := "law.go:74", after := #[{ on := 42, ground := Ground.guard }], guard := some (42, true) }) (v := .agg #[.int .u64 (la : Int), .slice pa na ca]) rfl (by kernel_rfl) (by kernel_rfl) (by kernel_rfl) (fun _ _ _ h => hP _ _ _ _ _ h) (Or.inl ⟨by kernel_rfl, fun W hW => by have q0 := (Ba.onC hW).c0; have q1 := (Ba.onC hW).c1; go_simp⟩) h0 ?_
  try (simp only [Act.put, List.getElem_toArray, List.getElem_cons_succ, List.getElem_cons_zero, List.setIfInBounds_toArray, List.set_cons_zero, List.set_cons_succ])
  refine wpAnyH_take (i := 44) (oi := { dst := some 65, op := Op.load 27 (Operand.tmp 8), type := 27, pos := "law.go:74", after := #[{ on := 42, ground := Ground.guard }], guard := some (42, true) }) (v := .agg #[.int .u64 (lb : Int), .slice pb nb cb]) rfl (by kernel_rfl) (by kernel_rfl) (by kernel_rfl) (fun _ _ _ h => hP _ _ _ _ _ h) (Or.inl ⟨by kernel_rfl, fun W hW => by have q0 := (Bb.onC hW).c0; have q1 := (Bb.onC hW).c1; go_simp⟩) h0 ?_
  try (simp only [Act.put, List.getElem_toArray, List.getElem_cons_succ, List.getElem_cons_zero, List.setIfInBounds_toArray, List.set_cons_zero, List.set_cons_succ])
  refine wpAnyH_take (i := 45) (oi := { dst := some 66, op := Op.load 27 (Operand.tmp 9), type := 27, pos := "law.go:74", after := #[{ on := 42, ground := Ground.guard }], guard := some (42, true) }) (v := .agg #[.int .u64 (lc : Int), .slice pc nc cc]) rfl (by kernel_rfl) (by kernel_rfl) (by kernel_rfl) (fun _ _ _ h => hP _ _ _ _ _ h) (Or.inl ⟨by kernel_rfl, fun W hW => by have q0 := (Bc.onC hW).c0; have q1 := (Bc.onC hW).c1; go_simp⟩) h0 ?_
  try (simp only [Act.put, List.getElem_toArray, List.getElem_cons_succ, List.getElem_cons_zero, List.setIfInBounds_toArray, List.set_cons_zero, List.set_cons_succ])
  refine wpAnyH_take (i := 48) (oi := { dst := some 69, op := Op.load 27 (Operand.tmp 7), type := 27, pos := "law.go:74", after := #[{ on := 42, ground := Ground.guard }], guard := some (42, true) }) (v := .agg #[.int .u64 (la : Int), .slice pa na ca]) rfl (by kernel_rfl) (by kernel_rfl) (by kernel_rfl) (fun _ _ _ h => hP _ _ _ _ _ h) (Or.inl ⟨by kernel_rfl, fun W hW => by have q0 := (Ba.onC hW).c0; have q1 := (Ba.onC hW).c1; go_simp⟩) h0 ?_
  try (simp only [Act.put, List.getElem_toArray, List.getElem_cons_succ, List.getElem_cons_zero, List.setIfInBounds_toArray, List.set_cons_zero, List.set_cons_succ])
  refine wpAnyH_take (i := 49) (oi := { dst := some 70, op := Op.load 27 (Operand.tmp 8), type := 27, pos := "law.go:74", after := #[{ on := 42, ground := Ground.guard }], guard := some (42, true) }) (v := .agg #[.int .u64 (lb : Int), .slice pb nb cb]) rfl (by kernel_rfl) (by kernel_rfl) (by kernel_rfl) (fun _ _ _ h => hP _ _ _ _ _ h) (Or.inl ⟨by kernel_rfl, fun W hW => by have q0 := (Bb.onC hW).c0; have q1 := (Bb.onC hW).c1; go_simp⟩) h0 ?_
  try (simp only [Act.put, List.getElem_toArray, List.getElem_cons_succ, List.getElem_cons_zero, List.setIfInBounds_toArray, List.set_cons_zero, List.set_cons_succ])
  refine wpAnyH_take (i := 51) (oi := { dst := some 72, op := Op.load 27 (Operand.tmp 7), type := 27, pos := "law.go:74", after := #[{ on := 42, ground := Ground.guard }], guard := some (42, true) }) (v := .agg #[.int .u64 (la : Int), .slice pa na ca]) rfl (by kernel_rfl) (by kernel_rfl) (by kernel_rfl) (fun _ _ _ h => hP _ _ _ _ _ h) (Or.inl ⟨by kernel_rfl, fun W hW => by have q0 := (Ba.onC hW).c0; have q1 := (Ba.onC hW).c1; go_simp⟩) h0 ?_
  try (simp only [Act.put, List.getElem_toArray, List.getElem_cons_succ, List.getElem_cons_zero, List.setIfInBounds_toArray, List.set_cons_zero, List.set_cons_succ])
  refine wpAnyH_take (i := 52) (oi := { dst := some 73, op := Op.load 27 (Operand.tmp 9), type := 27, pos := "law.go:74", after := #[{ on := 42, ground := Ground.guard }], guard := some (42, true) }) (v := .agg #[.int .u64 (lc : Int), .slice pc nc cc]) rfl (by kernel_rfl) (by kernel_rfl) (by kernel_rfl) (fun _ _ _ h => hP _ _ _ _ _ h) (Or.inl ⟨by kernel_rfl, fun W hW => by have q0 := (Bc.onC hW).c0; have q1 := (Bc.onC hW).c1; go_simp⟩) h0 ?_
  try (simp only [Act.put, List.getElem_toArray, List.getElem_cons_succ, List.getElem_cons_zero, List.setIfInBounds_toArray, List.set_cons_zero, List.set_cons_succ])
  refine wpAnyH_ready (rs := [46]) (by kernel_rfl) (by simp) ?_
  refine AllReadyH.cons (o := { dst := some 67, op := Op.call { callee := Callee.value (Operand.func 8), args := #[Operand.tmp 65, Operand.tmp 66], argTypes := #[27, 27] }, type := 27, pos := "law.go:74", after := #[{ on := 44, ground := Ground.data }, { on := 45, ground := Ground.data }, { on := 42, ground := Ground.chain }, { on := 42, ground := Ground.guard }], guard := some (42, true) }) rfl (fun K hK => ?_) AllReadyH.nil
  rw [if_pos (by kernel_rfl)]
  go_simp
  go_at_call 8
  refine (or_any _ _ _ B C (Hb.onC h0) (Hc.onC h0) SB SC).mono ?_
  rintro e W1 ⟨v67, rfl, hs, -, k⟩
  go_wp2_with fail
  have h1 : Kept (fun _ => False) w9 W1 := h0.then k
  refine hK.out _ _ h1 (fun _ => ?_)
  clear hK K
  have Ht67 := Lib.hid hs; clear hs
  clear k
  try (simp only [Act.put, List.getElem_toArray, List.getElem_cons_succ, List.getElem_cons_zero, List.setIfInBounds_toArray, List.set_cons_zero, List.set_cons_succ])
  refine wpAnyH_ready (rs := [47]) (by kernel_rfl) (by simp) ?_
  refine AllReadyH.cons (o := { dst := some 68, op := Op.call { callee := Callee.value (Operand.func 10), args := #[Operand.tmp 64, Operand.tmp 67], argTypes := #[27, 27] }, type := 27, pos := "law.go:74", after := #[{ on := 43, ground := Ground.data }, { on := 46, ground := Ground.data }, { on := 46, ground := Ground.chain }, { on := 42, ground := Ground.guard }], guard := some (42, true) }) rfl (fun K hK => ?_) AllReadyH.nil
  rw [if_pos (by kernel_rfl)]
  go_simp
  go_at_call 10
  refine (and_any _ _ _ A (B ||| C) (Ha.onC h1) Ht67.out SA (small_or SB SC)).mono ?_
  rintro e W2 ⟨v68, rfl, hs, -, k⟩
  go_wp2_with fail
  have h2 : Kept (fun _ => False) w9 W2 := h1.then k
  refine hK.out _ _ h2 (fun _ => ?_)
  clear hK K
  clear Ht67
  have Ht68 := Lib.hid hs; clear hs
  clear k
  try (simp only [Act.put, List.getElem_toArray, List.getElem_cons_succ, List.getElem_cons_zero, List.setIfInBounds_toArray, List.set_cons_zero, List.set_cons_succ])
  refine wpAnyH_ready (rs := [50]) (by kernel_rfl) (by simp) ?_
  refine AllReadyH.cons (o := { dst := some 71, op := Op.call { callee := Callee.value (Operand.func 10), args := #[Operand.tmp 69, Operand.tmp 70], argTypes := #[27, 27] }, type := 27, pos := "law.go:74", after := #[{ on := 48, ground := Ground.data }, { on := 49, ground := Ground.data }, { on := 47, ground := Ground.chain }, { on := 42, ground := Ground.guard }], guard := some (42, true) }) rfl (fun K hK => ?_) AllReadyH.nil
  rw [if_pos (by kernel_rfl)]
  go_simp
  go_at_call 10
  refine (and_any _ _ _ A B (Ha.onC h2) (Hb.onC h2) SA SB).mono ?_
  rintro e W3 ⟨v71, rfl, hs, -, k⟩
  go_wp2_with fail
  have h3 : Kept (fun _ => False) w9 W3 := h2.then k
  refine hK.out _ _ h3 (fun _ => ?_)
  clear hK K
  replace Ht68 := Lib.hid (Ht68.out.onC k)
  have Ht71 := Lib.hid hs; clear hs
  clear k
  try (simp only [Act.put, List.getElem_toArray, List.getElem_cons_succ, List.getElem_cons_zero, List.setIfInBounds_toArray, List.set_cons_zero, List.set_cons_succ])
  refine wpAnyH_ready (rs := [53]) (by kernel_rfl) (by simp) ?_
  refine AllReadyH.cons (o := { dst := some 74, op := Op.call { callee := Callee.value (Operand.func 10), args := #[Operand.tmp 72, Operand.tmp 73], argTypes := #[27, 27] }, type := 27, pos := "law.go:74", after := #[{ on := 51, ground := Ground.data }, { on := 52, ground := Ground.data }, { on := 50, ground := Ground.chain }, { on := 42, ground := Ground.guard }], guard := some (42, true) }) rfl (fun K hK => ?_) AllReadyH.nil
  rw [if_pos (by kernel_rfl)]
  go_simp
  go_at_call 10
  refine (and_any _ _ _ A C (Ha.onC h3) (Hc.onC h3) SA SC).mono ?_
  rintro e W4 ⟨v74, rfl, hs, -, k⟩
  go_wp2_with fail
  have h4 : Kept (fun _ => False) w9 W4 := h3.then k
  refine hK.out _ _ h4 (fun _ => ?_)
  clear hK K
  replace Ht68 := Lib.hid (Ht68.out.onC k)
  replace Ht71 := Lib.hid (Ht71.out.onC k)
  have Ht74 := Lib.hid hs; clear hs
  clear k
  try (simp only [Act.put, List.getElem_toArray, List.getElem_cons_succ, List.getElem_cons_zero, List.setIfInBounds_toArray, List.set_cons_zero, List.set_cons_succ])
  refine wpAnyH_ready (rs := [54]) (by kernel_rfl) (by simp) ?_
  refine AllReadyH.cons (o := { dst := some 75, op := Op.call { callee := Callee.value (Operand.func 8), args := #[Operand.tmp 71, Operand.tmp 74], argTypes := #[27, 27] }, type := 27, pos := "law.go:74", after := #[{ on := 50, ground := Ground.data }, { on := 53, ground := Ground.data }, { on := 53, ground := Ground.chain }, { on := 42, ground := Ground.guard }], guard := some (42, true) }) rfl (fun K hK => ?_) AllReadyH.nil
  rw [if_pos (by kernel_rfl)]
  go_simp
  go_at_call 8
  refine (or_any _ _ _ (A &&& B) (A &&& C) Ht71.out Ht74.out (small_and SA) (small_and SA)).mono ?_
  rintro e W5 ⟨v75, rfl, hs, -, k⟩
  go_wp2_with fail
  have h5 : Kept (fun _ => False) w9 W5 := h4.then k
  refine hK.out _ _ h5 (fun _ => ?_)
  clear hK K
  replace Ht68 := Lib.hid (Ht68.out.onC k)
  clear Ht71
  clear Ht74
  have Ht75 := Lib.hid hs; clear hs
  clear k
  try (simp only [Act.put, List.getElem_toArray, List.getElem_cons_succ, List.getElem_cons_zero, List.setIfInBounds_toArray, List.set_cons_zero, List.set_cons_succ])
  refine wpAnyH_ready (rs := [55]) (by kernel_rfl) (by simp) ?_
  refine AllReadyH.cons (o := { dst := some 76, op := Op.call { callee := Callee.value (Operand.func 9), args := #[Operand.tmp 68, Operand.tmp 75], argTypes := #[27, 27] }, type := 4, pos := "law.go:74", after := #[{ on := 47, ground := Ground.data }, { on := 54, ground := Ground.data }, { on := 54, ground := Ground.chain }, { on := 42, ground := Ground.guard }], guard := some (42, true) }) rfl (fun K hK => ?_) AllReadyH.nil
  rw [if_pos (by kernel_rfl)]
  go_simp
  go_at_call 9
  refine (equal_any _ _ _ (A &&& (B ||| C)) ((A &&& B) ||| (A &&& C)) Ht68.out Ht75.out).mono ?_
  rintro e W6 ⟨rfl, k⟩
  rw [show decide ((A &&& (B ||| C)) = ((A &&& B) ||| (A &&& C))) = true from decide_eq_true (bl_4 A B C)]
  go_wp2_with fail
  have h6 : Kept (fun _ => False) w9 W6 := h5.then k
  refine hK.out _ _ h6 (fun _ => ?_)
  clear hK K
  clear Ht68
  clear Ht75
  clear k
  try (simp only [Act.put, List.getElem_toArray, List.getElem_cons_succ, List.getElem_cons_zero, List.setIfInBounds_toArray, List.set_cons_zero, List.set_cons_succ])
  refine wpAnyH_take (i := 56) (oi := { dst := some 77, op := Op.pick (Operand.tmp 63) (Operand.tmp 76) (Operand.const (Value.bool false)), type := 4, pos := "law.go:74", after := #[{ on := 42, ground := Ground.data }, { on := 55, ground := Ground.data }], guard := none }) (v := .bool true) rfl (by kernel_rfl) (by kernel_rfl) (by kernel_rfl) (fun _ _ _ h => hP _ _ _ _ _ h) (Or.inl ⟨by kernel_rfl, fun W hW => by go_simp⟩) h6 ?_
  try (simp only [Act.put, List.getElem_toArray, List.getElem_cons_succ, List.getElem_cons_zero, List.setIfInBounds_toArray, List.set_cons_zero, List.set_cons_succ])
  refine cast_listed (l2 := (List.replicate 57 true ++ List.replicate 64 false).toArray) (by kernel_rfl) ?_
  exact blw_5 w9 g7 g8 g9 la na ca lb nb cb lc nc cc A B C pa pb pc Ba Bb Bc Ha Hb Hc SA SB SC Q hP hQ _ _ _ _ _ _ _ _ _ _ _ _ _ _ _ _ _ _ _ _ _ _ _ _ _ _ _ _ _ _ _ _ _ _ _ _ _ _ _ _ _ _ _ _ _ _ _ _ _ _ _ _ _ _ _ _ _ _ _ _ _ _ _ _ _ _ _ _ _ _ _ _ _ _ _ _ _ _ _ _ _ _ _ _ _ _ _ _ _ _ _ _ _ _ _ _ _ _ _ _ _ _ _ _ _ _ _ _ _ _ _ _ _ _ _ _ _ _ _ _ _ _ _ _ _ _ _ _ _ _ _ _ _ _ _ _ _ _ h6
end Go.Proofs.YtkgpnnegjhnjdaaDoor
/-
  arbaclaw01.BitsLaws: conjunct 3 of its region. Made by mk_bl3.py.
-/
namespace Go.Proofs.YtkgpnnegjhnjdaaDoor
open Go.RowKit
set_option linter.unusedSimpArgs false
set_option linter.unusedVariables false

set_option maxRecDepth 100000 in
set_option maxHeartbeats 6400000 in
theorem blw_3 (w9 : World) (g7 g8 g9 la na ca lb nb cb lc nc cc A B C : Nat) (pa pb pc : Option Addr)
    (Ba : BoxAt w9 g7 la (.slice pa na ca)) (Bb : BoxAt w9 g8 lb (.slice pb nb cb)) (Bc : BoxAt w9 g9 lc (.slice pc nc cc))
    (Ha : SetV w9 (.agg #[.int .u64 (la : Int), .slice pa na ca]) A) (Hb : SetV w9 (.agg #[.int .u64 (lb : Int), .slice pb nb cb]) B) (Hc : SetV w9 (.agg #[.int .u64 (lc : Int), .slice pc nc cc]) C)
    (SA : Small A) (SB : Small B) (SC : Small C) (Q : Exit → Act → World → Prop) (hP : ∀ (c : _) (a : Act) (d : Option Tmp) (v : Value) (w : World), Q (.panic c) (a.put d v) w → Q (.panic c) a w) (hQ : ∀ (u0 u1 u2 u3 u4 u5 u7 u8 u9 u10 u11 u12 u13 u14 u15 u16 u17 u18 u19 u20 u21 u22 u23 u24 u25 u26 u27 u28 u29 u30 u31 u32 u33 u34 u35 u36 u37 u38 u39 u40 u41 u42 u43 u44 u45 u46 u47 u48 u49 u50 u51 u52 u53 u54 u55 u56 u57 u58 u59 u60 u61 u62 u63 u64 u65 u66 u67 u68 u69 u70 u71 u72 u73 u74 u75 u76 u77 u78 u79 u80 u81 u82 u83 u84 u85 u86 u87 u88 u89 u90 u91 u92 u93 u94 u95 u96 u97 u98 u99 u100 u101 u102 u103 u104 u105 u106 u107 u108 u109 u110 u111 u112 u113 u114 u115 u116 u117 u118 u119 u120 u121 u122 u123 u124 u125 u126 u127 u128 u129 u130 u131 u132 u133 u134 u135 u136 u137 u138 u139 u140 : Value) (W : World), Kept (fun _ => False) w9 W → Q .normal { tmps := List.toArray (u0 :: u1 :: u2 :: u3 :: u4 :: u5 :: .bool true :: u7 :: u8 :: u9 :: u10 :: u11 :: u12 :: u13 :: u14 :: u15 :: u16 :: u17 :: u18 :: u19 :: u20 :: u21 :: u22 :: u23 :: u24 :: u25 :: u26 :: u27 :: u28 :: u29 :: u30 :: u31 :: u32 :: u33 :: u34 :: u35 :: u36 :: u37 :: u38 :: u39 :: u40 :: u41 :: u42 :: u43 :: u44 :: u45 :: u46 :: u47 :: u48 :: u49 :: u50 :: u51 :: u52 :: u53 :: u54 :: u55 :: u56 :: u57 :: u58 :: u59 :: u60 :: u61 :: u62 :: u63 :: u64 :: u65 :: u66 :: u67 :: u68 :: u69 :: u70 :: u71 :: u72 :: u73 :: u74 :: u75 :: u76 :: u77 :: u78 :: u79 :: u80 :: u81 :: u82 :: u83 :: u84 :: u85 :: u86 :: u87 :: u88 :: u89 :: u90 :: u91 :: u92 :: u93 :: u94 :: u95 :: u96 :: u97 :: u98 :: u99 :: u100 :: u101 :: u102 :: u103 :: u104 :: u105 :: u106 :: u107 :: u108 :: u109 :: u110 :: u111 :: u112 :: u113 :: u114 :: u115 :: u116 :: u117 :: u118 :: u119 :: u120 :: u121 :: u122 :: u123 :: u124 :: u125 :: u126 :: u127 :: u128 :: u129 :: u130 :: u131 :: u132 :: u133 :: u134 :: u135 :: u136 :: u137 :: u138 :: u139 :: u140 :: []), defers := [] } W)
    (u0 u1 u2 u3 u4 u5 u6 u10 u11 u12 u13 u14 u15 u16 u17 u18 u19 u20 u21 u22 u23 u24 u25 u26 u27 u28 u29 u30 u31 u32 u33 u34 u35 u36 u37 u38 u39 u40 u41 u42 u43 u44 u45 u46 u47 u48 u50 u51 u52 u53 u54 u55 u56 u57 u58 u59 u60 u61 u62 u63 u64 u65 u66 u67 u68 u69 u70 u71 u72 u73 u74 u75 u76 u77 u78 u79 u80 u81 u82 u83 u84 u85 u86 u87 u88 u89 u90 u91 u92 u93 u94 u95 u96 u97 u98 u99 u100 u101 u102 u103 u104 u105 u106 u107 u108 u109 u110 u111 u112 u113 u114 u115 u116 u117 u118 u119 u120 u121 u122 u123 u124 u125 u126 u127 u128 u129 u130 u131 u132 u133 u134 u135 u136 u137 u138 u139 u140 : Value) (W0 : World) (h0 : Kept (fun _ => False) w9 W0) :
    wpAnyH Tryd.prog .any opsL Q (fun W => Kept (fun _ => False) w9 W) 92 (List.replicate 29 true ++ List.replicate 92 false).toArray { tmps := List.toArray (u0 :: u1 :: u2 :: u3 :: u4 :: u5 :: u6 :: .pointer (some ⟨g7, 0, none⟩) :: .pointer (some ⟨g8, 0, none⟩) :: .pointer (some ⟨g9, 0, none⟩) :: u10 :: u11 :: u12 :: u13 :: u14 :: u15 :: u16 :: u17 :: u18 :: u19 :: u20 :: u21 :: u22 :: u23 :: u24 :: u25 :: u26 :: u27 :: u28 :: u29 :: u30 :: u31 :: u32 :: u33 :: u34 :: u35 :: u36 :: u37 :: u38 :: u39 :: u40 :: u41 :: u42 :: u43 :: u44 :: u45 :: u46 :: u47 :: u48 :: .bool true :: u50 :: u51 :: u52 :: u53 :: u54 :: u55 :: u56 :: u57 :: u58 :: u59 :: u60 :: u61 :: u62 :: u63 :: u64 :: u65 :: u66 :: u67 :: u68 :: u69 :: u70 :: u71 :: u72 :: u73 :: u74 :: u75 :: u76 :: u77 :: u78 :: u79 :: u80 :: u81 :: u82 :: u83 :: u84 :: u85 :: u86 :: u87 :: u88 :: u89 :: u90 :: u91 :: u92 :: u93 :: u94 :: u95 :: u96 :: u97 :: u98 :: u99 :: u100 :: u101 :: u102 :: u103 :: u104 :: u105 :: u106 :: u107 :: u108 :: u109 :: u110 :: u111 :: u112 :: u113 :: u114 :: u115 :: u116 :: u117 :: u118 :: u119 :: u120 :: u121 :: u122 :: u123 :: u124 :: u125 :: u126 :: u127 :: u128 :: u129 :: u130 :: u131 :: u132 :: u133 :: u134 :: u135 :: u136 :: u137 :: u138 :: u139 :: u140 :: []), defers := [] } W0 := by
  refine wpAnyH_take (i := 29) (oi := { dst := some 50, op := Op.move (Operand.tmp 49), type := 4, pos := "law.go:74", after := #[{ on := 28, ground := Ground.data }, { on := 27, ground := Ground.chain }], guard := none }) (v := .bool true) rfl (by kernel_rfl) (by kernel_rfl) (by kernel_rfl) (fun _ _ _ h => hP _ _ _ _ _ h) (Or.inl ⟨by kernel_rfl, fun W hW => by go_simp⟩) h0 ?_
  try (simp only [Act.put, List.getElem_toArray, List.getElem_cons_succ, List.getElem_cons_zero, List.setIfInBounds_toArray, List.set_cons_zero, List.set_cons_succ])
  refine wpAnyH_take (i := 30) (oi := { dst := some 51, op := Op.load 27 (Operand.tmp 7), type := 27, pos := "law.go:74", after := #[{ on := 29, ground := Ground.guard }], guard := some (29, true) }) (v := .agg #[.int .u64 (la : Int), .slice pa na ca]) rfl (by kernel_rfl) (by kernel_rfl) (by kernel_rfl) (fun _ _ _ h => hP _ _ _ _ _ h) (Or.inl ⟨by kernel_rfl, fun W hW => by have q0 := (Ba.onC hW).c0; have q1 := (Ba.onC hW).c1; go_simp⟩) h0 ?_
  try (simp only [Act.put, List.getElem_toArray, List.getElem_cons_succ, List.getElem_cons_zero, List.setIfInBounds_toArray, List.set_cons_zero, List.set_cons_succ])
  refine wpAnyH_take (i := 31) (oi := { dst := some 52, op := Op.load 27 (Operand.tmp 8), type := 27, pos := "law.go:74", after := #[{ on := 29, ground := Ground.guard }], guard := some (29, true) }) (v := .agg #[.int .u64 (lb : Int), .slice pb nb cb]) rfl (by kernel_rfl) (by kernel_rfl) (by kernel_rfl) (fun _ _ _ h => hP _ _ _ _ _ h) (Or.inl ⟨by kernel_rfl, fun W hW => by have q0 := (Bb.onC hW).c0; have q1 := (Bb.onC hW).c1; go_simp⟩) h0 ?_
  try (simp only [Act.put, List.getElem_toArray, List.getElem_cons_succ, List.getElem_cons_zero, List.setIfInBounds_toArray, List.set_cons_zero, List.set_cons_succ])
  refine wpAnyH_take (i := 32) (oi := { dst := some 53, op := Op.load 27 (Operand.tmp 9), type := 27, pos := "law.go:74", after := #[{ on := 29, ground := Ground.guard }], guard := some (29, true) }) (v := .agg #[.int .u64 (lc : Int), .slice pc nc cc]) rfl (by kernel_rfl) (by kernel_rfl) (by kernel_rfl) (fun _ _ _ h => hP _ _ _ _ _ h) (Or.inl ⟨by kernel_rfl, fun W hW => by have q0 := (Bc.onC hW).c0; have q1 := (Bc.onC hW).c1; go_simp⟩) h0 ?_
  try (simp only [Act.put, List.getElem_toArray, List.getElem_cons_succ, List.getElem_cons_zero, List.setIfInBounds_toArray, List.set_cons_zero, List.set_cons_succ])
  refine wpAnyH_take (i := 35) (oi := { dst := some 56, op := Op.load 27 (Operand.tmp 7), type := 27, pos := "law.go:74", after := #[{ on := 29, ground := Ground.guard }], guard := some (29, true) }) (v := .agg #[.int .u64 (la : Int), .slice pa na ca]) rfl (by kernel_rfl) (by kernel_rfl) (by kernel_rfl) (fun _ _ _ h => hP _ _ _ _ _ h) (Or.inl ⟨by kernel_rfl, fun W hW => by have q0 := (Ba.onC hW).c0; have q1 := (Ba.onC hW).c1; go_simp⟩) h0 ?_
  try (simp only [Act.put, List.getElem_toArray, List.getElem_cons_succ, List.getElem_cons_zero, List.setIfInBounds_toArray, List.set_cons_zero, List.set_cons_succ])
  refine wpAnyH_take (i := 36) (oi := { dst := some 57, op := Op.load 27 (Operand.tmp 8), type := 27, pos := "law.go:74", after := #[{ on := 29, ground := Ground.guard }], guard := some (29, true) }) (v := .agg #[.int .u64 (lb : Int), .slice pb nb cb]) rfl (by kernel_rfl) (by kernel_rfl) (by kernel_rfl) (fun _ _ _ h => hP _ _ _ _ _ h) (Or.inl ⟨by kernel_rfl, fun W hW => by have q0 := (Bb.onC hW).c0; have q1 := (Bb.onC hW).c1; go_simp⟩) h0 ?_
  try (simp only [Act.put, List.getElem_toArray, List.getElem_cons_succ, List.getElem_cons_zero, List.setIfInBounds_toArray, List.set_cons_zero, List.set_cons_succ])
  refine wpAnyH_take (i := 38) (oi := { dst := some 59, op := Op.load 27 (Operand.tmp 9), type := 27, pos := "law.go:74", after := #[{ on := 29, ground := Ground.guard }], guard := some (29, true) }) (v := .agg #[.int .u64 (lc : Int), .slice pc nc cc]) rfl (by kernel_rfl) (by kernel_rfl) (by kernel_rfl) (fun _ _ _ h => hP _ _ _ _ _ h) (Or.inl ⟨by kernel_rfl, fun W hW => by have q0 := (Bc.onC hW).c0; have q1 := (Bc.onC hW).c1; go_simp⟩) h0 ?_
  try (simp only [Act.put, List.getElem_toArray, List.getElem_cons_succ, List.getElem_cons_zero, List.setIfInBounds_toArray, List.set_cons_zero, List.set_cons_succ])
  refine wpAnyH_ready (rs := [33]) (by kernel_rfl) (by simp) ?_
  refine AllReadyH.cons (o := { dst := some 54, op := Op.call { callee := Callee.value (Operand.func 10), args := #[Operand.tmp 52, Operand.tmp 53], argTypes := #[27, 27] }, type := 27, pos := "law.go:74", after := #[{ on := 31, ground := Ground.data }, { on := 32, ground := Ground.data }, { on := 29, ground := Ground.chain }, { on := 29, ground := Ground.guard }], guard := some (29, true) }) rfl (fun K hK => ?_) AllReadyH.nil
  rw [if_pos (by kernel_rfl)]
  go_simp
  go_at_call 10
  refine (and_any _ _ _ B C (Hb.onC h0) (Hc.onC h0) SB SC).mono ?_
  rintro e W1 ⟨v54, rfl, hs, -, k⟩
  go_wp2_with fail
  have h1 : Kept (fun _ => False) w9 W1 := h0.then k
  refine hK.out _ _ h1 (fun _ => ?_)
  clear hK K
  have Ht54 := Lib.hid hs; clear hs
  clear k
  try (simp only [Act.put, List.getElem_toArray, List.getElem_cons_succ, List.getElem_cons_zero, List.setIfInBounds_toArray, List.set_cons_zero, List.set_cons_succ])
  refine wpAnyH_ready (rs := [34]) (by kernel_rfl) (by simp) ?_
  refine AllReadyH.cons (o := { dst := some 55, op := Op.call { callee := Callee.value (Operand.func 10), args := #[Operand.tmp 51, Operand.tmp 54], argTypes := #[27, 27] }, type := 27, pos := "law.go:74", after := #[{ on := 30, ground := Ground.data }, { on := 33, ground := Ground.data }, { on := 33, ground := Ground.chain }, { on := 29, ground := Ground.guard }], guard := some (29, true) }) rfl (fun K hK => ?_) AllReadyH.nil
  rw [if_pos (by kernel_rfl)]
  go_simp
  go_at_call 10
  refine (and_any _ _ _ A (B &&& C) (Ha.onC h1) Ht54.out SA (small_and SB)).mono ?_
  rintro e W2 ⟨v55, rfl, hs, -, k⟩
  go_wp2_with fail
  have h2 : Kept (fun _ => False) w9 W2 := h1.then k
  refine hK.out _ _ h2 (fun _ => ?_)
  clear hK K
  clear Ht54
  have Ht55 := Lib.hid hs; clear hs
  clear k
  try (simp only [Act.put, List.getElem_toArray, List.getElem_cons_succ, List.getElem_cons_zero, List.setIfInBounds_toArray, List.set_cons_zero, List.set_cons_succ])
  refine wpAnyH_ready (rs := [37]) (by kernel_rfl) (by simp) ?_
  refine AllReadyH.cons (o := { dst := some 58, op := Op.call { callee := Callee.value (Operand.func 10), args := #[Operand.tmp 56, Operand.tmp 57], argTypes := #[27, 27] }, type := 27, pos := "law.go:74", after := #[{ on := 35, ground := Ground.data }, { on := 36, ground := Ground.data }, { on := 34, ground := Ground.chain }, { on := 29, ground := Ground.guard }], guard := some (29, true) }) rfl (fun K hK => ?_) AllReadyH.nil
  rw [if_pos (by kernel_rfl)]
  go_simp
  go_at_call 10
  refine (and_any _ _ _ A B (Ha.onC h2) (Hb.onC h2) SA SB).mono ?_
  rintro e W3 ⟨v58, rfl, hs, -, k⟩
  go_wp2_with fail
  have h3 : Kept (fun _ => False) w9 W3 := h2.then k
  refine hK.out _ _ h3 (fun _ => ?_)
  clear hK K
  replace Ht55 := Lib.hid (Ht55.out.onC k)
  have Ht58 := Lib.hid hs; clear hs
  clear k
  try (simp only [Act.put, List.getElem_toArray, List.getElem_cons_succ, List.getElem_cons_zero, List.setIfInBounds_toArray, List.set_cons_zero, List.set_cons_succ])
  refine wpAnyH_ready (rs := [39]) (by kernel_rfl) (by simp) ?_
  refine AllReadyH.cons (o := { dst := some 60, op := Op.call { callee := Callee.value (Operand.func 10), args := #[Operand.tmp 58, Operand.tmp 59], argTypes := #[27, 27] }, type := 27, pos := "law.go:74", after := #[{ on := 37, ground := Ground.data }, { on := 38, ground := Ground.data }, { on := 37, ground := Ground.chain }, { on := 29, ground := Ground.guard }], guard := some (29, true) }) rfl (fun K hK => ?_) AllReadyH.nil
  rw [if_pos (by kernel_rfl)]
  go_simp
  go_at_call 10
  refine (and_any _ _ _ (A &&& B) C Ht58.out (Hc.onC h3) (small_and SA) SC).mono ?_
  rintro e W4 ⟨v60, rfl, hs, -, k⟩
  go_wp2_with fail
  have h4 : Kept (fun _ => False) w9 W4 := h3.then k
  refine hK.out _ _ h4 (fun _ => ?_)
  clear hK K
  replace Ht55 := Lib.hid (Ht55.out.onC k)
  clear Ht58
  have Ht60 := Lib.hid hs; clear hs
  clear k
  try (simp only [Act.put, List.getElem_toArray, List.getElem_cons_succ, List.getElem_cons_zero, List.setIfInBounds_toArray, List.set_cons_zero, List.set_cons_succ])
  refine wpAnyH_ready (rs := [40]) (by kernel_rfl) (by simp) ?_
  refine AllReadyH.cons (o := { dst := some 61, op := Op.call { callee := Callee.value (Operand.func 9), args := #[Operand.tmp 55, Operand.tmp 60], argTypes := #[27, 27] }, type := 4, pos := "law.go:74", after := #[{ on := 34, ground := Ground.data }, { on := 39, ground := Ground.data }, { on := 39, ground := Ground.chain }, { on := 29, ground := Ground.guard }], guard := some (29, true) }) rfl (fun K hK => ?_) AllReadyH.nil
  rw [if_pos (by kernel_rfl)]
  go_simp
  go_at_call 9
  refine (equal_any _ _ _ (A &&& (B &&& C)) ((A &&& B) &&& C) Ht55.out Ht60.out).mono ?_
  rintro e W5 ⟨rfl, k⟩
  rw [show decide ((A &&& (B &&& C)) = ((A &&& B) &&& C)) = true from decide_eq_true (bl_3 A B C)]
  go_wp2_with fail
  have h5 : Kept (fun _ => False) w9 W5 := h4.then k
  refine hK.out _ _ h5 (fun _ => ?_)
  clear hK K
  clear Ht55
  clear Ht60
  clear k
  try (simp only [Act.put, List.getElem_toArray, List.getElem_cons_succ, List.getElem_cons_zero, List.setIfInBounds_toArray, List.set_cons_zero, List.set_cons_succ])
  refine wpAnyH_take (i := 41) (oi := { dst := some 62, op := Op.pick (Operand.tmp 50) (Operand.tmp 61) (Operand.const (Value.bool false)), type := 4, pos := "law.go:74", after := #[{ on := 29, ground := Ground.data }, { on := 40, ground := Ground.data }], guard := none }) (v := .bool true) rfl (by kernel_rfl) (by kernel_rfl) (by kernel_rfl) (fun _ _ _ h => hP _ _ _ _ _ h) (Or.inl ⟨by kernel_rfl, fun W hW => by go_simp⟩) h5 ?_
  try (simp only [Act.put, List.getElem_toArray, List.getElem_cons_succ, List.getElem_cons_zero, List.setIfInBounds_toArray, List.set_cons_zero, List.set_cons_succ])
  refine cast_listed (l2 := (List.replicate 42 true ++ List.replicate 79 false).toArray) (by kernel_rfl) ?_
  exact blw_4 w9 g7 g8 g9 la na ca lb nb cb lc nc cc A B C pa pb pc Ba Bb Bc Ha Hb Hc SA SB SC Q hP hQ _ _ _ _ _ _ _ _ _ _ _ _ _ _ _ _ _ _ _ _ _ _ _ _ _ _ _ _ _ _ _ _ _ _ _ _ _ _ _ _ _ _ _ _ _ _ _ _ _ _ _ _ _ _ _ _ _ _ _ _ _ _ _ _ _ _ _ _ _ _ _ _ _ _ _ _ _ _ _ _ _ _ _ _ _ _ _ _ _ _ _ _ _ _ _ _ _ _ _ _ _ _ _ _ _ _ _ _ _ _ _ _ _ _ _ _ _ _ _ _ _ _ _ _ _ _ _ _ _ _ _ _ _ _ _ _ _ _ h5
end Go.Proofs.YtkgpnnegjhnjdaaDoor
/-
  arbaclaw01.BitsLaws: conjunct 2 of its region. Made by mk_bl3.py.
-/
namespace Go.Proofs.YtkgpnnegjhnjdaaDoor
open Go.RowKit
set_option linter.unusedSimpArgs false
set_option linter.unusedVariables false

set_option maxRecDepth 100000 in
set_option maxHeartbeats 6400000 in
theorem blw_2 (w9 : World) (g7 g8 g9 la na ca lb nb cb lc nc cc A B C : Nat) (pa pb pc : Option Addr)
    (Ba : BoxAt w9 g7 la (.slice pa na ca)) (Bb : BoxAt w9 g8 lb (.slice pb nb cb)) (Bc : BoxAt w9 g9 lc (.slice pc nc cc))
    (Ha : SetV w9 (.agg #[.int .u64 (la : Int), .slice pa na ca]) A) (Hb : SetV w9 (.agg #[.int .u64 (lb : Int), .slice pb nb cb]) B) (Hc : SetV w9 (.agg #[.int .u64 (lc : Int), .slice pc nc cc]) C)
    (SA : Small A) (SB : Small B) (SC : Small C) (Q : Exit → Act → World → Prop) (hP : ∀ (c : _) (a : Act) (d : Option Tmp) (v : Value) (w : World), Q (.panic c) (a.put d v) w → Q (.panic c) a w) (hQ : ∀ (u0 u1 u2 u3 u4 u5 u7 u8 u9 u10 u11 u12 u13 u14 u15 u16 u17 u18 u19 u20 u21 u22 u23 u24 u25 u26 u27 u28 u29 u30 u31 u32 u33 u34 u35 u36 u37 u38 u39 u40 u41 u42 u43 u44 u45 u46 u47 u48 u49 u50 u51 u52 u53 u54 u55 u56 u57 u58 u59 u60 u61 u62 u63 u64 u65 u66 u67 u68 u69 u70 u71 u72 u73 u74 u75 u76 u77 u78 u79 u80 u81 u82 u83 u84 u85 u86 u87 u88 u89 u90 u91 u92 u93 u94 u95 u96 u97 u98 u99 u100 u101 u102 u103 u104 u105 u106 u107 u108 u109 u110 u111 u112 u113 u114 u115 u116 u117 u118 u119 u120 u121 u122 u123 u124 u125 u126 u127 u128 u129 u130 u131 u132 u133 u134 u135 u136 u137 u138 u139 u140 : Value) (W : World), Kept (fun _ => False) w9 W → Q .normal { tmps := List.toArray (u0 :: u1 :: u2 :: u3 :: u4 :: u5 :: .bool true :: u7 :: u8 :: u9 :: u10 :: u11 :: u12 :: u13 :: u14 :: u15 :: u16 :: u17 :: u18 :: u19 :: u20 :: u21 :: u22 :: u23 :: u24 :: u25 :: u26 :: u27 :: u28 :: u29 :: u30 :: u31 :: u32 :: u33 :: u34 :: u35 :: u36 :: u37 :: u38 :: u39 :: u40 :: u41 :: u42 :: u43 :: u44 :: u45 :: u46 :: u47 :: u48 :: u49 :: u50 :: u51 :: u52 :: u53 :: u54 :: u55 :: u56 :: u57 :: u58 :: u59 :: u60 :: u61 :: u62 :: u63 :: u64 :: u65 :: u66 :: u67 :: u68 :: u69 :: u70 :: u71 :: u72 :: u73 :: u74 :: u75 :: u76 :: u77 :: u78 :: u79 :: u80 :: u81 :: u82 :: u83 :: u84 :: u85 :: u86 :: u87 :: u88 :: u89 :: u90 :: u91 :: u92 :: u93 :: u94 :: u95 :: u96 :: u97 :: u98 :: u99 :: u100 :: u101 :: u102 :: u103 :: u104 :: u105 :: u106 :: u107 :: u108 :: u109 :: u110 :: u111 :: u112 :: u113 :: u114 :: u115 :: u116 :: u117 :: u118 :: u119 :: u120 :: u121 :: u122 :: u123 :: u124 :: u125 :: u126 :: u127 :: u128 :: u129 :: u130 :: u131 :: u132 :: u133 :: u134 :: u135 :: u136 :: u137 :: u138 :: u139 :: u140 :: []), defers := [] } W)
    (u0 u1 u2 u3 u4 u5 u6 u10 u11 u12 u13 u14 u15 u16 u17 u18 u19 u20 u21 u22 u23 u24 u25 u26 u27 u28 u29 u30 u31 u32 u33 u34 u35 u37 u38 u39 u40 u41 u42 u43 u44 u45 u46 u47 u48 u49 u50 u51 u52 u53 u54 u55 u56 u57 u58 u59 u60 u61 u62 u63 u64 u65 u66 u67 u68 u69 u70 u71 u72 u73 u74 u75 u76 u77 u78 u79 u80 u81 u82 u83 u84 u85 u86 u87 u88 u89 u90 u91 u92 u93 u94 u95 u96 u97 u98 u99 u100 u101 u102 u103 u104 u105 u106 u107 u108 u109 u110 u111 u112 u113 u114 u115 u116 u117 u118 u119 u120 u121 u122 u123 u124 u125 u126 u127 u128 u129 u130 u131 u132 u133 u134 u135 u136 u137 u138 u139 u140 : Value) (W0 : World) (h0 : Kept (fun _ => False) w9 W0) :
    wpAnyH Tryd.prog .any opsL Q (fun W => Kept (fun _ => False) w9 W) 105 (List.replicate 16 true ++ List.replicate 105 false).toArray { tmps := List.toArray (u0 :: u1 :: u2 :: u3 :: u4 :: u5 :: u6 :: .pointer (some ⟨g7, 0, none⟩) :: .pointer (some ⟨g8, 0, none⟩) :: .pointer (some ⟨g9, 0, none⟩) :: u10 :: u11 :: u12 :: u13 :: u14 :: u15 :: u16 :: u17 :: u18 :: u19 :: u20 :: u21 :: u22 :: u23 :: u24 :: u25 :: u26 :: u27 :: u28 :: u29 :: u30 :: u31 :: u32 :: u33 :: u34 :: u35 :: .bool true :: u37 :: u38 :: u39 :: u40 :: u41 :: u42 :: u43 :: u44 :: u45 :: u46 :: u47 :: u48 :: u49 :: u50 :: u51 :: u52 :: u53 :: u54 :: u55 :: u56 :: u57 :: u58 :: u59 :: u60 :: u61 :: u62 :: u63 :: u64 :: u65 :: u66 :: u67 :: u68 :: u69 :: u70 :: u71 :: u72 :: u73 :: u74 :: u75 :: u76 :: u77 :: u78 :: u79 :: u80 :: u81 :: u82 :: u83 :: u84 :: u85 :: u86 :: u87 :: u88 :: u89 :: u90 :: u91 :: u92 :: u93 :: u94 :: u95 :: u96 :: u97 :: u98 :: u99 :: u100 :: u101 :: u102 :: u103 :: u104 :: u105 :: u106 :: u107 :: u108 :: u109 :: u110 :: u111 :: u112 :: u113 :: u114 :: u115 :: u116 :: u117 :: u118 :: u119 :: u120 :: u121 :: u122 :: u123 :: u124 :: u125 :: u126 :: u127 :: u128 :: u129 :: u130 :: u131 :: u132 :: u133 :: u134 :: u135 :: u136 :: u137 :: u138 :: u139 :: u140 :: []), defers := [] } W0 := by
  refine wpAnyH_take (i := 16) (oi := { dst := some 37, op := Op.move (Operand.tmp 36), type := 4, pos := "law.go:74", after := #[{ on := 15, ground := Ground.data }, { on := 14, ground := Ground.chain }], guard := none }) (v := .bool true) rfl (by kernel_rfl) (by kernel_rfl) (by kernel_rfl) (fun _ _ _ h => hP _ _ _ _ _ h) (Or.inl ⟨by kernel_rfl, fun W hW => by go_simp⟩) h0 ?_
  try (simp only [Act.put, List.getElem_toArray, List.getElem_cons_succ, List.getElem_cons_zero, List.setIfInBounds_toArray, List.set_cons_zero, List.set_cons_succ])
  refine wpAnyH_take (i := 17) (oi := { dst := some 38, op := Op.load 27 (Operand.tmp 7), type := 27, pos := "law.go:74", after := #[{ on := 16, ground := Ground.guard }], guard := some (16, true) }) (v := .agg #[.int .u64 (la : Int), .slice pa na ca]) rfl (by kernel_rfl) (by kernel_rfl) (by kernel_rfl) (fun _ _ _ h => hP _ _ _ _ _ h) (Or.inl ⟨by kernel_rfl, fun W hW => by have q0 := (Ba.onC hW).c0; have q1 := (Ba.onC hW).c1; go_simp⟩) h0 ?_
  try (simp only [Act.put, List.getElem_toArray, List.getElem_cons_succ, List.getElem_cons_zero, List.setIfInBounds_toArray, List.set_cons_zero, List.set_cons_succ])
  refine wpAnyH_take (i := 18) (oi := { dst := some 39, op := Op.load 27 (Operand.tmp 8), type := 27, pos := "law.go:74", after := #[{ on := 16, ground := Ground.guard }], guard := some (16, true) }) (v := .agg #[.int .u64 (lb : Int), .slice pb nb cb]) rfl (by kernel_rfl) (by kernel_rfl) (by kernel_rfl) (fun _ _ _ h => hP _ _ _ _ _ h) (Or.inl ⟨by kernel_rfl, fun W hW => by have q0 := (Bb.onC hW).c0; have q1 := (Bb.onC hW).c1; go_simp⟩) h0 ?_
  try (simp only [Act.put, List.getElem_toArray, List.getElem_cons_succ, List.getElem_cons_zero, List.setIfInBounds_toArray, List.set_cons_zero, List.set_cons_succ])
  refine wpAnyH_take (i := 19) (oi := { dst := some 40, op := Op.load 27 (Operand.tmp 9), type := 27, pos := "law.go:74", after := #[{ on := 16, ground := Ground.guard }], guard := some (16, true) }) (v := .agg #[.int .u64 (lc : Int), .slice pc nc cc]) rfl (by kernel_rfl) (by kernel_rfl) (by kernel_rfl) (fun _ _ _ h => hP _ _ _ _ _ h) (Or.inl ⟨by kernel_rfl, fun W hW => by have q0 := (Bc.onC hW).c0; have q1 := (Bc.onC hW).c1; go_simp⟩) h0 ?_
  try (simp only [Act.put, List.getElem_toArray, List.getElem_cons_succ, List.getElem_cons_zero, List.setIfInBounds_toArray, List.set_cons_zero, List.set_cons_succ])
  refine wpAnyH_take (i := 22) (oi := { dst := some 43, op := Op.load 27 (Operand.tmp 7), type := 27, pos := "law.go:74", after := #[{ on := 16, ground := Ground.guard }], guard := some (16, true) }) (v := .agg #[.int .u64 (la : Int), .slice pa na ca]) rfl (by kernel_rfl) (by kernel_rfl) (by kernel_rfl) (fun _ _ _ h => hP _ _ _ _ _ h) (Or.inl ⟨by kernel_rfl, fun W hW => by have q0 := (Ba.onC hW).c0; have q1 := (Ba.onC hW).c1; go_simp⟩) h0 ?_
  try (simp only [Act.put, List.getElem_toArray, List.getElem_cons_succ, List.getElem_cons_zero, List.setIfInBounds_toArray, List.set_cons_zero, List.set_cons_succ])
  refine wpAnyH_take (i := 23) (oi := { dst := some 44, op := Op.load 27 (Operand.tmp 8), type := 27, pos := "law.go:74", after := #[{ on := 16, ground := Ground.guard }], guard := some (16, true) }) (v := .agg #[.int .u64 (lb : Int), .slice pb nb cb]) rfl (by kernel_rfl) (by kernel_rfl) (by kernel_rfl) (fun _ _ _ h => hP _ _ _ _ _ h) (Or.inl ⟨by kernel_rfl, fun W hW => by have q0 := (Bb.onC hW).c0; have q1 := (Bb.onC hW).c1; go_simp⟩) h0 ?_
  try (simp only [Act.put, List.getElem_toArray, List.getElem_cons_succ, List.getElem_cons_zero, List.setIfInBounds_toArray, List.set_cons_zero, List.set_cons_succ])
  refine wpAnyH_take (i := 25) (oi := { dst := some 46, op := Op.load 27 (Operand.tmp 9), type := 27, pos := "law.go:74", after := #[{ on := 16, ground := Ground.guard }], guard := some (16, true) }) (v := .agg #[.int .u64 (lc : Int), .slice pc nc cc]) rfl (by kernel_rfl) (by kernel_rfl) (by kernel_rfl) (fun _ _ _ h => hP _ _ _ _ _ h) (Or.inl ⟨by kernel_rfl, fun W hW => by have q0 := (Bc.onC hW).c0; have q1 := (Bc.onC hW).c1; go_simp⟩) h0 ?_
  try (simp only [Act.put, List.getElem_toArray, List.getElem_cons_succ, List.getElem_cons_zero, List.setIfInBounds_toArray, List.set_cons_zero, List.set_cons_succ])
  refine wpAnyH_ready (rs := [20]) (by kernel_rfl) (by simp) ?_
  refine AllReadyH.cons (o := { dst := some 41, op := Op.call { callee := Callee.value (Operand.func 8), args := #[Operand.tmp 39, Operand.tmp 40], argTypes := #[27, 27] }, type := 27, pos := "law.go:74", after := #[{ on := 18, ground := Ground.data }, { on := 19, ground := Ground.data }, { on := 16, ground := Ground.chain }, { on := 16, ground := Ground.guard }], guard := some (16, true) }) rfl (fun K hK => ?_) AllReadyH.nil
  rw [if_pos (by kernel_rfl)]
  go_simp
  go_at_call 8
  refine (or_any _ _ _ B C (Hb.onC h0) (Hc.onC h0) SB SC).mono ?_
  rintro e W1 ⟨v41, rfl, hs, -, k⟩
  go_wp2_with fail
  have h1 : Kept (fun _ => False) w9 W1 := h0.then k
  refine hK.out _ _ h1 (fun _ => ?_)
  clear hK K
  have Ht41 := Lib.hid hs; clear hs
  clear k
  try (simp only [Act.put, List.getElem_toArray, List.getElem_cons_succ, List.getElem_cons_zero, List.setIfInBounds_toArray, List.set_cons_zero, List.set_cons_succ])
  refine wpAnyH_ready (rs := [21]) (by kernel_rfl) (by simp) ?_
  refine AllReadyH.cons (o := { dst := some 42, op := Op.call { callee := Callee.value (Operand.func 8), args := #[Operand.tmp 38, Operand.tmp 41], argTypes := #[27, 27] }, type := 27, pos := "law.go:74", after := #[{ on := 17, ground := Ground.data }, { on := 20, ground := Ground.data }, { on := 20, ground := Ground.chain }, { on := 16, ground := Ground.guard }], guard := some (16, true) }) rfl (fun K hK => ?_) AllReadyH.nil
  rw [if_pos (by kernel_rfl)]
  go_simp
  go_at_call 8
  refine (or_any _ _ _ A (B ||| C) (Ha.onC h1) Ht41.out SA (small_or SB SC)).mono ?_
  rintro e W2 ⟨v42, rfl, hs, -, k⟩
  go_wp2_with fail
  have h2 : Kept (fun _ => False) w9 W2 := h1.then k
  refine hK.out _ _ h2 (fun _ => ?_)
  clear hK K
  clear Ht41
  have Ht42 := Lib.hid hs; clear hs
  clear k
  try (simp only [Act.put, List.getElem_toArray, List.getElem_cons_succ, List.getElem_cons_zero, List.setIfInBounds_toArray, List.set_cons_zero, List.set_cons_succ])
  refine wpAnyH_ready (rs := [24]) (by kernel_rfl) (by simp) ?_
  refine AllReadyH.cons (o := { dst := some 45, op := Op.call { callee := Callee.value (Operand.func 8), args := #[Operand.tmp 43, Operand.tmp 44], argTypes := #[27, 27] }, type := 27, pos := "law.go:74", after := #[{ on := 22, ground := Ground.data }, { on := 23, ground := Ground.data }, { on := 21, ground := Ground.chain }, { on := 16, ground := Ground.guard }], guard := some (16, true) }) rfl (fun K hK => ?_) AllReadyH.nil
  rw [if_pos (by kernel_rfl)]
  go_simp
  go_at_call 8
  refine (or_any _ _ _ A B (Ha.onC h2) (Hb.onC h2) SA SB).mono ?_
  rintro e W3 ⟨v45, rfl, hs, -, k⟩
  go_wp2_with fail
  have h3 : Kept (fun _ => False) w9 W3 := h2.then k
  refine hK.out _ _ h3 (fun _ => ?_)
  clear hK K
  replace Ht42 := Lib.hid (Ht42.out.onC k)
  have Ht45 := Lib.hid hs; clear hs
  clear k
  try (simp only [Act.put, List.getElem_toArray, List.getElem_cons_succ, List.getElem_cons_zero, List.setIfInBounds_toArray, List.set_cons_zero, List.set_cons_succ])
  refine wpAnyH_ready (rs := [26]) (by kernel_rfl) (by simp) ?_
  refine AllReadyH.cons (o := { dst := some 47, op := Op.call { callee := Callee.value (Operand.func 8), args := #[Operand.tmp 45, Operand.tmp 46], argTypes := #[27, 27] }, type := 27, pos := "law.go:74", after := #[{ on := 24, ground := Ground.data }, { on := 25, ground := Ground.data }, { on := 24, ground := Ground.chain }, { on := 16, ground := Ground.guard }], guard := some (16, true) }) rfl (fun K hK => ?_) AllReadyH.nil
  rw [if_pos (by kernel_rfl)]
  go_simp
  go_at_call 8
  refine (or_any _ _ _ (A ||| B) C Ht45.out (Hc.onC h3) (small_or SA SB) SC).mono ?_
  rintro e W4 ⟨v47, rfl, hs, -, k⟩
  go_wp2_with fail
  have h4 : Kept (fun _ => False) w9 W4 := h3.then k
  refine hK.out _ _ h4 (fun _ => ?_)
  clear hK K
  replace Ht42 := Lib.hid (Ht42.out.onC k)
  clear Ht45
  have Ht47 := Lib.hid hs; clear hs
  clear k
  try (simp only [Act.put, List.getElem_toArray, List.getElem_cons_succ, List.getElem_cons_zero, List.setIfInBounds_toArray, List.set_cons_zero, List.set_cons_succ])
  refine wpAnyH_ready (rs := [27]) (by kernel_rfl) (by simp) ?_
  refine AllReadyH.cons (o := { dst := some 48, op := Op.call { callee := Callee.value (Operand.func 9), args := #[Operand.tmp 42, Operand.tmp 47], argTypes := #[27, 27] }, type := 4, pos := "law.go:74", after := #[{ on := 21, ground := Ground.data }, { on := 26, ground := Ground.data }, { on := 26, ground := Ground.chain }, { on := 16, ground := Ground.guard }], guard := some (16, true) }) rfl (fun K hK => ?_) AllReadyH.nil
  rw [if_pos (by kernel_rfl)]
  go_simp
  go_at_call 9
  refine (equal_any _ _ _ (A ||| (B ||| C)) ((A ||| B) ||| C) Ht42.out Ht47.out).mono ?_
  rintro e W5 ⟨rfl, k⟩
  rw [show decide ((A ||| (B ||| C)) = ((A ||| B) ||| C)) = true from decide_eq_true (bl_2 A B C)]
  go_wp2_with fail
  have h5 : Kept (fun _ => False) w9 W5 := h4.then k
  refine hK.out _ _ h5 (fun _ => ?_)
  clear hK K
  clear Ht42
  clear Ht47
  clear k
  try (simp only [Act.put, List.getElem_toArray, List.getElem_cons_succ, List.getElem_cons_zero, List.setIfInBounds_toArray, List.set_cons_zero, List.set_cons_succ])
  refine wpAnyH_take (i := 28) (oi := { dst := some 49, op := Op.pick (Operand.tmp 37) (Operand.tmp 48) (Operand.const (Value.bool false)), type := 4, pos := "law.go:74", after := #[{ on := 16, ground := Ground.data }, { on := 27, ground := Ground.data }], guard := none }) (v := .bool true) rfl (by kernel_rfl) (by kernel_rfl) (by kernel_rfl) (fun _ _ _ h => hP _ _ _ _ _ h) (Or.inl ⟨by kernel_rfl, fun W hW => by go_simp⟩) h5 ?_
  try (simp only [Act.put, List.getElem_toArray, List.getElem_cons_succ, List.getElem_cons_zero, List.setIfInBounds_toArray, List.set_cons_zero, List.set_cons_succ])
  refine cast_listed (l2 := (List.replicate 29 true ++ List.replicate 92 false).toArray) (by kernel_rfl) ?_
  exact blw_3 w9 g7 g8 g9 la na ca lb nb cb lc nc cc A B C pa pb pc Ba Bb Bc Ha Hb Hc SA SB SC Q hP hQ _ _ _ _ _ _ _ _ _ _ _ _ _ _ _ _ _ _ _ _ _ _ _ _ _ _ _ _ _ _ _ _ _ _ _ _ _ _ _ _ _ _ _ _ _ _ _ _ _ _ _ _ _ _ _ _ _ _ _ _ _ _ _ _ _ _ _ _ _ _ _ _ _ _ _ _ _ _ _ _ _ _ _ _ _ _ _ _ _ _ _ _ _ _ _ _ _ _ _ _ _ _ _ _ _ _ _ _ _ _ _ _ _ _ _ _ _ _ _ _ _ _ _ _ _ _ _ _ _ _ _ _ _ _ _ _ _ _ h5
end Go.Proofs.YtkgpnnegjhnjdaaDoor
/-
  arbaclaw01.BitsLaws: conjunct 1 of its region. Made by mk_bl3.py.
-/
namespace Go.Proofs.YtkgpnnegjhnjdaaDoor
open Go.RowKit
set_option linter.unusedSimpArgs false
set_option linter.unusedVariables false

set_option maxRecDepth 100000 in
set_option maxHeartbeats 6400000 in
theorem blw_1 (w9 : World) (g7 g8 g9 la na ca lb nb cb lc nc cc A B C : Nat) (pa pb pc : Option Addr)
    (Ba : BoxAt w9 g7 la (.slice pa na ca)) (Bb : BoxAt w9 g8 lb (.slice pb nb cb)) (Bc : BoxAt w9 g9 lc (.slice pc nc cc))
    (Ha : SetV w9 (.agg #[.int .u64 (la : Int), .slice pa na ca]) A) (Hb : SetV w9 (.agg #[.int .u64 (lb : Int), .slice pb nb cb]) B) (Hc : SetV w9 (.agg #[.int .u64 (lc : Int), .slice pc nc cc]) C)
    (SA : Small A) (SB : Small B) (SC : Small C) (Q : Exit → Act → World → Prop) (hP : ∀ (c : _) (a : Act) (d : Option Tmp) (v : Value) (w : World), Q (.panic c) (a.put d v) w → Q (.panic c) a w) (hQ : ∀ (u0 u1 u2 u3 u4 u5 u7 u8 u9 u10 u11 u12 u13 u14 u15 u16 u17 u18 u19 u20 u21 u22 u23 u24 u25 u26 u27 u28 u29 u30 u31 u32 u33 u34 u35 u36 u37 u38 u39 u40 u41 u42 u43 u44 u45 u46 u47 u48 u49 u50 u51 u52 u53 u54 u55 u56 u57 u58 u59 u60 u61 u62 u63 u64 u65 u66 u67 u68 u69 u70 u71 u72 u73 u74 u75 u76 u77 u78 u79 u80 u81 u82 u83 u84 u85 u86 u87 u88 u89 u90 u91 u92 u93 u94 u95 u96 u97 u98 u99 u100 u101 u102 u103 u104 u105 u106 u107 u108 u109 u110 u111 u112 u113 u114 u115 u116 u117 u118 u119 u120 u121 u122 u123 u124 u125 u126 u127 u128 u129 u130 u131 u132 u133 u134 u135 u136 u137 u138 u139 u140 : Value) (W : World), Kept (fun _ => False) w9 W → Q .normal { tmps := List.toArray (u0 :: u1 :: u2 :: u3 :: u4 :: u5 :: .bool true :: u7 :: u8 :: u9 :: u10 :: u11 :: u12 :: u13 :: u14 :: u15 :: u16 :: u17 :: u18 :: u19 :: u20 :: u21 :: u22 :: u23 :: u24 :: u25 :: u26 :: u27 :: u28 :: u29 :: u30 :: u31 :: u32 :: u33 :: u34 :: u35 :: u36 :: u37 :: u38 :: u39 :: u40 :: u41 :: u42 :: u43 :: u44 :: u45 :: u46 :: u47 :: u48 :: u49 :: u50 :: u51 :: u52 :: u53 :: u54 :: u55 :: u56 :: u57 :: u58 :: u59 :: u60 :: u61 :: u62 :: u63 :: u64 :: u65 :: u66 :: u67 :: u68 :: u69 :: u70 :: u71 :: u72 :: u73 :: u74 :: u75 :: u76 :: u77 :: u78 :: u79 :: u80 :: u81 :: u82 :: u83 :: u84 :: u85 :: u86 :: u87 :: u88 :: u89 :: u90 :: u91 :: u92 :: u93 :: u94 :: u95 :: u96 :: u97 :: u98 :: u99 :: u100 :: u101 :: u102 :: u103 :: u104 :: u105 :: u106 :: u107 :: u108 :: u109 :: u110 :: u111 :: u112 :: u113 :: u114 :: u115 :: u116 :: u117 :: u118 :: u119 :: u120 :: u121 :: u122 :: u123 :: u124 :: u125 :: u126 :: u127 :: u128 :: u129 :: u130 :: u131 :: u132 :: u133 :: u134 :: u135 :: u136 :: u137 :: u138 :: u139 :: u140 :: []), defers := [] } W)
    (u0 u1 u2 u3 u4 u5 u6 u10 u11 u12 u13 u14 u15 u16 u17 u18 u19 u20 u21 u22 u23 u24 u25 u26 u27 u29 u30 u31 u32 u33 u34 u35 u36 u37 u38 u39 u40 u41 u42 u43 u44 u45 u46 u47 u48 u49 u50 u51 u52 u53 u54 u55 u56 u57 u58 u59 u60 u61 u62 u63 u64 u65 u66 u67 u68 u69 u70 u71 u72 u73 u74 u75 u76 u77 u78 u79 u80 u81 u82 u83 u84 u85 u86 u87 u88 u89 u90 u91 u92 u93 u94 u95 u96 u97 u98 u99 u100 u101 u102 u103 u104 u105 u106 u107 u108 u109 u110 u111 u112 u113 u114 u115 u116 u117 u118 u119 u120 u121 u122 u123 u124 u125 u126 u127 u128 u129 u130 u131 u132 u133 u134 u135 u136 u137 u138 u139 u140 : Value) (W0 : World) (h0 : Kept (fun _ => False) w9 W0) :
    wpAnyH Tryd.prog .any opsL Q (fun W => Kept (fun _ => False) w9 W) 113 (List.replicate 8 true ++ List.replicate 113 false).toArray { tmps := List.toArray (u0 :: u1 :: u2 :: u3 :: u4 :: u5 :: u6 :: .pointer (some ⟨g7, 0, none⟩) :: .pointer (some ⟨g8, 0, none⟩) :: .pointer (some ⟨g9, 0, none⟩) :: u10 :: u11 :: u12 :: u13 :: u14 :: u15 :: u16 :: u17 :: u18 :: u19 :: u20 :: u21 :: u22 :: u23 :: u24 :: u25 :: u26 :: u27 :: .bool true :: u29 :: u30 :: u31 :: u32 :: u33 :: u34 :: u35 :: u36 :: u37 :: u38 :: u39 :: u40 :: u41 :: u42 :: u43 :: u44 :: u45 :: u46 :: u47 :: u48 :: u49 :: u50 :: u51 :: u52 :: u53 :: u54 :: u55 :: u56 :: u57 :: u58 :: u59 :: u60 :: u61 :: u62 :: u63 :: u64 :: u65 :: u66 :: u67 :: u68 :: u69 :: u70 :: u71 :: u72 :: u73 :: u74 :: u75 :: u76 :: u77 :: u78 :: u79 :: u80 :: u81 :: u82 :: u83 :: u84 :: u85 :: u86 :: u87 :: u88 :: u89 :: u90 :: u91 :: u92 :: u93 :: u94 :: u95 :: u96 :: u97 :: u98 :: u99 :: u100 :: u101 :: u102 :: u103 :: u104 :: u105 :: u106 :: u107 :: u108 :: u109 :: u110 :: u111 :: u112 :: u113 :: u114 :: u115 :: u116 :: u117 :: u118 :: u119 :: u120 :: u121 :: u122 :: u123 :: u124 :: u125 :: u126 :: u127 :: u128 :: u129 :: u130 :: u131 :: u132 :: u133 :: u134 :: u135 :: u136 :: u137 :: u138 :: u139 :: u140 :: []), defers := [] } W0 := by
  refine wpAnyH_take (i := 8) (oi := { dst := some 29, op := Op.load 27 (Operand.tmp 7), type := 27, pos := "law.go:74", after := #[{ on := 7, ground := Ground.guard }], guard := some (7, true) }) (v := .agg #[.int .u64 (la : Int), .slice pa na ca]) rfl (by kernel_rfl) (by kernel_rfl) (by kernel_rfl) (fun _ _ _ h => hP _ _ _ _ _ h) (Or.inl ⟨by kernel_rfl, fun W hW => by have q0 := (Ba.onC hW).c0; have q1 := (Ba.onC hW).c1; go_simp⟩) h0 ?_
  try (simp only [Act.put, List.getElem_toArray, List.getElem_cons_succ, List.getElem_cons_zero, List.setIfInBounds_toArray, List.set_cons_zero, List.set_cons_succ])
  refine wpAnyH_take (i := 9) (oi := { dst := some 30, op := Op.load 27 (Operand.tmp 8), type := 27, pos := "law.go:74", after := #[{ on := 7, ground := Ground.guard }], guard := some (7, true) }) (v := .agg #[.int .u64 (lb : Int), .slice pb nb cb]) rfl (by kernel_rfl) (by kernel_rfl) (by kernel_rfl) (fun _ _ _ h => hP _ _ _ _ _ h) (Or.inl ⟨by kernel_rfl, fun W hW => by have q0 := (Bb.onC hW).c0; have q1 := (Bb.onC hW).c1; go_simp⟩) h0 ?_
  try (simp only [Act.put, List.getElem_toArray, List.getElem_cons_succ, List.getElem_cons_zero, List.setIfInBounds_toArray, List.set_cons_zero, List.set_cons_succ])
  refine wpAnyH_take (i := 11) (oi := { dst := some 32, op := Op.load 27 (Operand.tmp 8), type := 27, pos := "law.go:74", after := #[{ on := 7, ground := Ground.guard }], guard := some (7, true) }) (v := .agg #[.int .u64 (lb : Int), .slice pb nb cb]) rfl (by kernel_rfl) (by kernel_rfl) (by kernel_rfl) (fun _ _ _ h => hP _ _ _ _ _ h) (Or.inl ⟨by kernel_rfl, fun W hW => by have q0 := (Bb.onC hW).c0; have q1 := (Bb.onC hW).c1; go_simp⟩) h0 ?_
  try (simp only [Act.put, List.getElem_toArray, List.getElem_cons_succ, List.getElem_cons_zero, List.setIfInBounds_toArray, List.set_cons_zero, List.set_cons_succ])
  refine wpAnyH_take (i := 12) (oi := { dst := some 33, op := Op.load 27 (Operand.tmp 7), type := 27, pos := "law.go:74", after := #[{ on := 7, ground := Ground.guard }], guard := some (7, true) }) (v := .agg #[.int .u64 (la : Int), .slice pa na ca]) rfl (by kernel_rfl) (by kernel_rfl) (by kernel_rfl) (fun _ _ _ h => hP _ _ _ _ _ h) (Or.inl ⟨by kernel_rfl, fun W hW => by have q0 := (Ba.onC hW).c0; have q1 := (Ba.onC hW).c1; go_simp⟩) h0 ?_
  try (simp only [Act.put, List.getElem_toArray, List.getElem_cons_succ, List.getElem_cons_zero, List.setIfInBounds_toArray, List.set_cons_zero, List.set_cons_succ])
  refine wpAnyH_ready (rs := [10]) (by kernel_rfl) (by simp) ?_
  refine AllReadyH.cons (o := { dst := some 31, op := Op.call { callee := Callee.value (Operand.func 10), args := #[Operand.tmp 29, Operand.tmp 30], argTypes := #[27, 27] }, type := 27, pos := "law.go:74", after := #[{ on := 8, ground := Ground.data }, { on := 9, ground := Ground.data }, { on := 7, ground := Ground.chain }, { on := 7, ground := Ground.guard }], guard := some (7, true) }) rfl (fun K hK => ?_) AllReadyH.nil
  rw [if_pos (by kernel_rfl)]
  go_simp
  go_at_call 10
  refine (and_any _ _ _ A B (Ha.onC h0) (Hb.onC h0) SA SB).mono ?_
  rintro e W1 ⟨v31, rfl, hs, -, k⟩
  go_wp2_with fail
  have h1 : Kept (fun _ => False) w9 W1 := h0.then k
  refine hK.out _ _ h1 (fun _ => ?_)
  clear hK K
  have Ht31 := Lib.hid hs; clear hs
  clear k
  try (simp only [Act.put, List.getElem_toArray, List.getElem_cons_succ, List.getElem_cons_zero, List.setIfInBounds_toArray, List.set_cons_zero, List.set_cons_succ])
  refine wpAnyH_ready (rs := [13]) (by kernel_rfl) (by simp) ?_
  refine AllReadyH.cons (o := { dst := some 34, op := Op.call { callee := Callee.value (Operand.func 10), args := #[Operand.tmp 32, Operand.tmp 33], argTypes := #[27, 27] }, type := 27, pos := "law.go:74", after := #[{ on := 11, ground := Ground.data }, { on := 12, ground := Ground.data }, { on := 10, ground := Ground.chain }, { on := 7, ground := Ground.guard }], guard := some (7, true) }) rfl (fun K hK => ?_) AllReadyH.nil
  rw [if_pos (by kernel_rfl)]
  go_simp
  go_at_call 10
  refine (and_any _ _ _ B A (Hb.onC h1) (Ha.onC h1) SB SA).mono ?_
  rintro e W2 ⟨v34, rfl, hs, -, k⟩
  go_wp2_with fail
  have h2 : Kept (fun _ => False) w9 W2 := h1.then k
  refine hK.out _ _ h2 (fun _ => ?_)
  clear hK K
  replace Ht31 := Lib.hid (Ht31.out.onC k)
  have Ht34 := Lib.hid hs; clear hs
  clear k
  try (simp only [Act.put, List.getElem_toArray, List.getElem_cons_succ, List.getElem_cons_zero, List.setIfInBounds_toArray, List.set_cons_zero, List.set_cons_succ])
  refine wpAnyH_ready (rs := [14]) (by kernel_rfl) (by simp) ?_
  refine AllReadyH.cons (o := { dst := some 35, op := Op.call { callee := Callee.value (Operand.func 9), args := #[Operand.tmp 31, Operand.tmp 34], argTypes := #[27, 27] }, type := 4, pos := "law.go:74", after := #[{ on := 10, ground := Ground.data }, { on := 13, ground := Ground.data }, { on := 13, ground := Ground.chain }, { on := 7, ground := Ground.guard }], guard := some (7, true) }) rfl (fun K hK => ?_) AllReadyH.nil
  rw [if_pos (by kernel_rfl)]
  go_simp
  go_at_call 9
  refine (equal_any _ _ _ (A &&& B) (B &&& A) Ht31.out Ht34.out).mono ?_
  rintro e W3 ⟨rfl, k⟩
  rw [show decide ((A &&& B) = (B &&& A)) = true from decide_eq_true (bl_1 A B C)]
  go_wp2_with fail
  have h3 : Kept (fun _ => False) w9 W3 := h2.then k
  refine hK.out _ _ h3 (fun _ => ?_)
  clear hK K
  clear Ht31
  clear Ht34
  clear k
  try (simp only [Act.put, List.getElem_toArray, List.getElem_cons_succ, List.getElem_cons_zero, List.setIfInBounds_toArray, List.set_cons_zero, List.set_cons_succ])
  refine wpAnyH_take (i := 15) (oi := { dst := some 36, op := Op.pick (Operand.tmp 28) (Operand.tmp 35) (Operand.const (Value.bool false)), type := 4, pos := "law.go:74", after := #[{ on := 7, ground := Ground.data }, { on := 14, ground := Ground.data }], guard := none }) (v := .bool true) rfl (by kernel_rfl) (by kernel_rfl) (by kernel_rfl) (fun _ _ _ h => hP _ _ _ _ _ h) (Or.inl ⟨by kernel_rfl, fun W hW => by go_simp⟩) h3 ?_
  try (simp only [Act.put, List.getElem_toArray, List.getElem_cons_succ, List.getElem_cons_zero, List.setIfInBounds_toArray, List.set_cons_zero, List.set_cons_succ])
  refine cast_listed (l2 := (List.replicate 16 true ++ List.replicate 105 false).toArray) (by kernel_rfl) ?_
  exact blw_2 w9 g7 g8 g9 la na ca lb nb cb lc nc cc A B C pa pb pc Ba Bb Bc Ha Hb Hc SA SB SC Q hP hQ _ _ _ _ _ _ _ _ _ _ _ _ _ _ _ _ _ _ _ _ _ _ _ _ _ _ _ _ _ _ _ _ _ _ _ _ _ _ _ _ _ _ _ _ _ _ _ _ _ _ _ _ _ _ _ _ _ _ _ _ _ _ _ _ _ _ _ _ _ _ _ _ _ _ _ _ _ _ _ _ _ _ _ _ _ _ _ _ _ _ _ _ _ _ _ _ _ _ _ _ _ _ _ _ _ _ _ _ _ _ _ _ _ _ _ _ _ _ _ _ _ _ _ _ _ _ _ _ _ _ _ _ _ _ _ _ _ _ h3
end Go.Proofs.YtkgpnnegjhnjdaaDoor
/-
  arbaclaw01.BitsLaws: conjunct 0 of its region. Made by mk_bl3.py.
-/
namespace Go.Proofs.YtkgpnnegjhnjdaaDoor
open Go.RowKit
set_option linter.unusedSimpArgs false
set_option linter.unusedVariables false

set_option maxRecDepth 100000 in
set_option maxHeartbeats 6400000 in
theorem blw_0 (w9 : World) (g7 g8 g9 la na ca lb nb cb lc nc cc A B C : Nat) (pa pb pc : Option Addr)
    (Ba : BoxAt w9 g7 la (.slice pa na ca)) (Bb : BoxAt w9 g8 lb (.slice pb nb cb)) (Bc : BoxAt w9 g9 lc (.slice pc nc cc))
    (Ha : SetV w9 (.agg #[.int .u64 (la : Int), .slice pa na ca]) A) (Hb : SetV w9 (.agg #[.int .u64 (lb : Int), .slice pb nb cb]) B) (Hc : SetV w9 (.agg #[.int .u64 (lc : Int), .slice pc nc cc]) C)
    (SA : Small A) (SB : Small B) (SC : Small C) (Q : Exit → Act → World → Prop) (hP : ∀ (c : _) (a : Act) (d : Option Tmp) (v : Value) (w : World), Q (.panic c) (a.put d v) w → Q (.panic c) a w) (hQ : ∀ (u0 u1 u2 u3 u4 u5 u7 u8 u9 u10 u11 u12 u13 u14 u15 u16 u17 u18 u19 u20 u21 u22 u23 u24 u25 u26 u27 u28 u29 u30 u31 u32 u33 u34 u35 u36 u37 u38 u39 u40 u41 u42 u43 u44 u45 u46 u47 u48 u49 u50 u51 u52 u53 u54 u55 u56 u57 u58 u59 u60 u61 u62 u63 u64 u65 u66 u67 u68 u69 u70 u71 u72 u73 u74 u75 u76 u77 u78 u79 u80 u81 u82 u83 u84 u85 u86 u87 u88 u89 u90 u91 u92 u93 u94 u95 u96 u97 u98 u99 u100 u101 u102 u103 u104 u105 u106 u107 u108 u109 u110 u111 u112 u113 u114 u115 u116 u117 u118 u119 u120 u121 u122 u123 u124 u125 u126 u127 u128 u129 u130 u131 u132 u133 u134 u135 u136 u137 u138 u139 u140 : Value) (W : World), Kept (fun _ => False) w9 W → Q .normal { tmps := List.toArray (u0 :: u1 :: u2 :: u3 :: u4 :: u5 :: .bool true :: u7 :: u8 :: u9 :: u10 :: u11 :: u12 :: u13 :: u14 :: u15 :: u16 :: u17 :: u18 :: u19 :: u20 :: u21 :: u22 :: u23 :: u24 :: u25 :: u26 :: u27 :: u28 :: u29 :: u30 :: u31 :: u32 :: u33 :: u34 :: u35 :: u36 :: u37 :: u38 :: u39 :: u40 :: u41 :: u42 :: u43 :: u44 :: u45 :: u46 :: u47 :: u48 :: u49 :: u50 :: u51 :: u52 :: u53 :: u54 :: u55 :: u56 :: u57 :: u58 :: u59 :: u60 :: u61 :: u62 :: u63 :: u64 :: u65 :: u66 :: u67 :: u68 :: u69 :: u70 :: u71 :: u72 :: u73 :: u74 :: u75 :: u76 :: u77 :: u78 :: u79 :: u80 :: u81 :: u82 :: u83 :: u84 :: u85 :: u86 :: u87 :: u88 :: u89 :: u90 :: u91 :: u92 :: u93 :: u94 :: u95 :: u96 :: u97 :: u98 :: u99 :: u100 :: u101 :: u102 :: u103 :: u104 :: u105 :: u106 :: u107 :: u108 :: u109 :: u110 :: u111 :: u112 :: u113 :: u114 :: u115 :: u116 :: u117 :: u118 :: u119 :: u120 :: u121 :: u122 :: u123 :: u124 :: u125 :: u126 :: u127 :: u128 :: u129 :: u130 :: u131 :: u132 :: u133 :: u134 :: u135 :: u136 :: u137 :: u138 :: u139 :: u140 :: []), defers := [] } W)
    (u0 u1 u2 u3 u4 u5 u6 u10 u11 u12 u13 u14 u15 u16 u17 u18 u19 u20 u21 u22 u23 u24 u25 u26 u27 u28 u29 u30 u31 u32 u33 u34 u35 u36 u37 u38 u39 u40 u41 u42 u43 u44 u45 u46 u47 u48 u49 u50 u51 u52 u53 u54 u55 u56 u57 u58 u59 u60 u61 u62 u63 u64 u65 u66 u67 u68 u69 u70 u71 u72 u73 u74 u75 u76 u77 u78 u79 u80 u81 u82 u83 u84 u85 u86 u87 u88 u89 u90 u91 u92 u93 u94 u95 u96 u97 u98 u99 u100 u101 u102 u103 u104 u105 u106 u107 u108 u109 u110 u111 u112 u113 u114 u115 u116 u117 u118 u119 u120 u121 u122 u123 u124 u125 u126 u127 u128 u129 u130 u131 u132 u133 u134 u135 u136 u137 u138 u139 u140 : Value) (W0 : World) (h0 : Kept (fun _ => False) w9 W0) :
    wpAnyH Tryd.prog .any opsL Q (fun W => Kept (fun _ => False) w9 W) 121 (List.replicate 0 true ++ List.replicate 121 false).toArray { tmps := List.toArray (u0 :: u1 :: u2 :: u3 :: u4 :: u5 :: u6 :: .pointer (some ⟨g7, 0, none⟩) :: .pointer (some ⟨g8, 0, none⟩) :: .pointer (some ⟨g9, 0, none⟩) :: u10 :: u11 :: u12 :: u13 :: u14 :: u15 :: u16 :: u17 :: u18 :: u19 :: u20 :: u21 :: u22 :: u23 :: u24 :: u25 :: u26 :: u27 :: u28 :: u29 :: u30 :: u31 :: u32 :: u33 :: u34 :: u35 :: u36 :: u37 :: u38 :: u39 :: u40 :: u41 :: u42 :: u43 :: u44 :: u45 :: u46 :: u47 :: u48 :: u49 :: u50 :: u51 :: u52 :: u53 :: u54 :: u55 :: u56 :: u57 :: u58 :: u59 :: u60 :: u61 :: u62 :: u63 :: u64 :: u65 :: u66 :: u67 :: u68 :: u69 :: u70 :: u71 :: u72 :: u73 :: u74 :: u75 :: u76 :: u77 :: u78 :: u79 :: u80 :: u81 :: u82 :: u83 :: u84 :: u85 :: u86 :: u87 :: u88 :: u89 :: u90 :: u91 :: u92 :: u93 :: u94 :: u95 :: u96 :: u97 :: u98 :: u99 :: u100 :: u101 :: u102 :: u103 :: u104 :: u105 :: u106 :: u107 :: u108 :: u109 :: u110 :: u111 :: u112 :: u113 :: u114 :: u115 :: u116 :: u117 :: u118 :: u119 :: u120 :: u121 :: u122 :: u123 :: u124 :: u125 :: u126 :: u127 :: u128 :: u129 :: u130 :: u131 :: u132 :: u133 :: u134 :: u135 :: u136 :: u137 :: u138 :: u139 :: u140 :: []), defers := [] } W0 := by
  refine wpAnyH_take (i := 0) (oi := { dst := some 21, op := Op.load 27 (Operand.tmp 7), type := 27, pos := "law.go:74", after := #[], guard := none }) (v := .agg #[.int .u64 (la : Int), .slice pa na ca]) rfl (by kernel_rfl) (by kernel_rfl) (by kernel_rfl) (fun _ _ _ h => hP _ _ _ _ _ h) (Or.inl ⟨by kernel_rfl, fun W hW => by have q0 := (Ba.onC hW).c0; have q1 := (Ba.onC hW).c1; go_simp⟩) h0 ?_
  try (simp only [Act.put, List.getElem_toArray, List.getElem_cons_succ, List.getElem_cons_zero, List.setIfInBounds_toArray, List.set_cons_zero, List.set_cons_succ])
  refine wpAnyH_take (i := 1) (oi := { dst := some 22, op := Op.load 27 (Operand.tmp 8), type := 27, pos := "law.go:74", after := #[], guard := none }) (v := .agg #[.int .u64 (lb : Int), .slice pb nb cb]) rfl (by kernel_rfl) (by kernel_rfl) (by kernel_rfl) (fun _ _ _ h => hP _ _ _ _ _ h) (Or.inl ⟨by kernel_rfl, fun W hW => by have q0 := (Bb.onC hW).c0; have q1 := (Bb.onC hW).c1; go_simp⟩) h0 ?_
  try (simp only [Act.put, List.getElem_toArray, List.getElem_cons_succ, List.getElem_cons_zero, List.setIfInBounds_toArray, List.set_cons_zero, List.set_cons_succ])
  refine wpAnyH_take (i := 3) (oi := { dst := some 24, op := Op.load 27 (Operand.tmp 8), type := 27, pos := "law.go:74", after := #[], guard := none }) (v := .agg #[.int .u64 (lb : Int), .slice pb nb cb]) rfl (by kernel_rfl) (by kernel_rfl) (by kernel_rfl) (fun _ _ _ h => hP _ _ _ _ _ h) (Or.inl ⟨by kernel_rfl, fun W hW => by have q0 := (Bb.onC hW).c0; have q1 := (Bb.onC hW).c1; go_simp⟩) h0 ?_
  try (simp only [Act.put, List.getElem_toArray, List.getElem_cons_succ, List.getElem_cons_zero, List.setIfInBounds_toArray, List.set_cons_zero, List.set_cons_succ])
  refine wpAnyH_take (i := 4) (oi := { dst := some 25, op := Op.load 27 (Operand.tmp 7), type := 27, pos := "law.go:74", after := #[], guard := none }) (v := .agg #[.int .u64 (la : Int), .slice pa na ca]) rfl (by kernel_rfl) (by kernel_rfl) (by kernel_rfl) (fun _ _ _ h => hP _ _ _ _ _ h) (Or.inl ⟨by kernel_rfl, fun W hW => by have q0 := (Ba.onC hW).c0; have q1 := (Ba.onC hW).c1; go_simp⟩) h0 ?_
  try (simp only [Act.put, List.getElem_toArray, List.getElem_cons_succ, List.getElem_cons_zero, List.setIfInBounds_toArray, List.set_cons_zero, List.set_cons_succ])
  refine wpAnyH_ready (rs := [2]) (by kernel_rfl) (by simp) ?_
  refine AllReadyH.cons (o := { dst := some 23, op := Op.call { callee := Callee.value (Operand.func 8), args := #[Operand.tmp 21, Operand.tmp 22], argTypes := #[27, 27] }, type := 27, pos := "law.go:74", after := #[{ on := 0, ground := Ground.data }, { on := 1, ground := Ground.data }], guard := none }) rfl (fun K hK => ?_) AllReadyH.nil
  rw [if_pos (by kernel_rfl)]
  go_simp
  go_at_call 8
  refine (or_any _ _ _ A B (Ha.onC h0) (Hb.onC h0) SA SB).mono ?_
  rintro e W1 ⟨v23, rfl, hs, -, k⟩
  go_wp2_with fail
  have h1 : Kept (fun _ => False) w9 W1 := h0.then k
  refine hK.out _ _ h1 (fun _ => ?_)
  clear hK K
  have Ht23 := Lib.hid hs; clear hs
  clear k
  try (simp only [Act.put, List.getElem_toArray, List.getElem_cons_succ, List.getElem_cons_zero, List.setIfInBounds_toArray, List.set_cons_zero, List.set_cons_succ])
  refine wpAnyH_ready (rs := [5]) (by kernel_rfl) (by simp) ?_
  refine AllReadyH.cons (o := { dst := some 26, op := Op.call { callee := Callee.value (Operand.func 8), args := #[Operand.tmp 24, Operand.tmp 25], argTypes := #[27, 27] }, type := 27, pos := "law.go:74", after := #[{ on := 3, ground := Ground.data }, { on := 4, ground := Ground.data }, { on := 2, ground := Ground.chain }], guard := none }) rfl (fun K hK => ?_) AllReadyH.nil
  rw [if_pos (by kernel_rfl)]
  go_simp
  go_at_call 8
  refine (or_any _ _ _ B A (Hb.onC h1) (Ha.onC h1) SB SA).mono ?_
  rintro e W2 ⟨v26, rfl, hs, -, k⟩
  go_wp2_with fail
  have h2 : Kept (fun _ => False) w9 W2 := h1.then k
  refine hK.out _ _ h2 (fun _ => ?_)
  clear hK K
  replace Ht23 := Lib.hid (Ht23.out.onC k)
  have Ht26 := Lib.hid hs; clear hs
  clear k
  try (simp only [Act.put, List.getElem_toArray, List.getElem_cons_succ, List.getElem_cons_zero, List.setIfInBounds_toArray, List.set_cons_zero, List.set_cons_succ])
  refine wpAnyH_ready (rs := [6]) (by kernel_rfl) (by simp) ?_
  refine AllReadyH.cons (o := { dst := some 27, op := Op.call { callee := Callee.value (Operand.func 9), args := #[Operand.tmp 23, Operand.tmp 26], argTypes := #[27, 27] }, type := 4, pos := "law.go:74", after := #[{ on := 2, ground := Ground.data }, { on := 5, ground := Ground.data }, { on := 5, ground := Ground.chain }], guard := none }) rfl (fun K hK => ?_) AllReadyH.nil
  rw [if_pos (by kernel_rfl)]
  go_simp
  go_at_call 9
  refine (equal_any _ _ _ (A ||| B) (B ||| A) Ht23.out Ht26.out).mono ?_
  rintro e W3 ⟨rfl, k⟩
  rw [show decide ((A ||| B) = (B ||| A)) = true from decide_eq_true (bl_0 A B C)]
  go_wp2_with fail
  have h3 : Kept (fun _ => False) w9 W3 := h2.then k
  refine hK.out _ _ h3 (fun _ => ?_)
  clear hK K
  clear Ht23
  clear Ht26
  clear k
  try (simp only [Act.put, List.getElem_toArray, List.getElem_cons_succ, List.getElem_cons_zero, List.setIfInBounds_toArray, List.set_cons_zero, List.set_cons_succ])
  refine wpAnyH_take (i := 7) (oi := { dst := some 28, op := Op.move (Operand.tmp 27), type := 4, pos := "law.go:74", after := #[{ on := 6, ground := Ground.data }, { on := 6, ground := Ground.chain }], guard := none }) (v := .bool true) rfl (by kernel_rfl) (by kernel_rfl) (by kernel_rfl) (fun _ _ _ h => hP _ _ _ _ _ h) (Or.inl ⟨by kernel_rfl, fun W hW => by go_simp⟩) h3 ?_
  try (simp only [Act.put, List.getElem_toArray, List.getElem_cons_succ, List.getElem_cons_zero, List.setIfInBounds_toArray, List.set_cons_zero, List.set_cons_succ])
  refine cast_listed (l2 := (List.replicate 8 true ++ List.replicate 113 false).toArray) (by kernel_rfl) ?_
  exact blw_1 w9 g7 g8 g9 la na ca lb nb cb lc nc cc A B C pa pb pc Ba Bb Bc Ha Hb Hc SA SB SC Q hP hQ _ _ _ _ _ _ _ _ _ _ _ _ _ _ _ _ _ _ _ _ _ _ _ _ _ _ _ _ _ _ _ _ _ _ _ _ _ _ _ _ _ _ _ _ _ _ _ _ _ _ _ _ _ _ _ _ _ _ _ _ _ _ _ _ _ _ _ _ _ _ _ _ _ _ _ _ _ _ _ _ _ _ _ _ _ _ _ _ _ _ _ _ _ _ _ _ _ _ _ _ _ _ _ _ _ _ _ _ _ _ _ _ _ _ _ _ _ _ _ _ _ _ _ _ _ _ _ _ _ _ _ _ _ _ _ _ _ _ h3
end Go.Proofs.YtkgpnnegjhnjdaaDoor
/-
  arbaclaw01.BitsLaws: the walk. Made by mk_blv.py; its region is in BLo and BLs0 to BLs11.
-/
namespace Go.Proofs.YtkgpnnegjhnjdaaDoor
open Go.RowKit
set_option linter.unusedSimpArgs false
set_option linter.unusedVariables false

set_option maxRecDepth 100000 in
set_option maxHeartbeats 6400000 in
theorem laws_at (w : World) (va vb vc : Value) (xs ys zs : List Int) (ha : Ints w va xs) (hb : Ints w vb ys) (hc : Ints w vc zs) (hL : Libs w) :
    Calls Tryd.prog 3 #[va, vb, vc] w fun e w' => e = .returned (.bool true) ∧ Kept (fun _ => False) w w' := by
  have HL := Lib.hid hL; have HA := Lib.hid ha; have HB := Lib.hid hb; have HC := Lib.hid hc
  clear hL ha hb hc
  go_enter Tryd.func3, Tryd.ntmps3
  go_wp2_with fail
  refine (aw_any w HL.out).mono ?_
  rintro e wa ⟨rfl, k1⟩
  have KK := Lib.hid k1
  clear k1
  go_wp2_with fail
  refine (few_any _ _ xs (HA.out.kept KK.out (fun _ _ h => h))).mono ?_
  rintro e wfa ⟨ua, rfl, hi, rfl⟩
  have HI := Lib.hid hi
  clear hi
  go_wp2_with fail
  refine (of_any _ _ _ HI.out).mono ?_
  rintro e woa ⟨sa, rfl, hs, -, k1⟩
  replace KK := Lib.hid (KK.out.then k1)
  obtain ⟨A, hM⟩ : ∃ M, M = maskOf (xs.take 60) := ⟨_, rfl⟩
  rw [← hM] at hs
  have SA : Hid (Small A) := hM ▸ maskOf_small _
  have HMA := Lib.hid hM
  have Ha := Lib.hid hs
  obtain ⟨la, pa, na, ca, rfl⟩ := hs.form
  clear hs k1 HI hM
  go_wp2_with fail
  refine (few_any _ _ ys (HB.out.kept KK.out (fun _ _ h => h))).mono ?_
  rintro e wfb ⟨ub, rfl, hi, rfl⟩
  have HI := Lib.hid hi
  clear hi
  go_wp2_with fail
  refine (of_any _ _ _ HI.out).mono ?_
  rintro e wob ⟨sb, rfl, hs, -, k1⟩
  replace Ha := Lib.hid (Ha.out.onC k1)
  replace KK := Lib.hid (KK.out.then k1)
  obtain ⟨B, hM⟩ : ∃ M, M = maskOf (ys.take 60) := ⟨_, rfl⟩
  rw [← hM] at hs
  have SB : Hid (Small B) := hM ▸ maskOf_small _
  have HMB := Lib.hid hM
  have Hb := Lib.hid hs
  obtain ⟨lb, pb, nb, cb, rfl⟩ := hs.form
  clear hs k1 HI hM
  go_wp2_with fail
  refine (few_any _ _ zs (HC.out.kept KK.out (fun _ _ h => h))).mono ?_
  rintro e wfc ⟨uc, rfl, hi, rfl⟩
  have HI := Lib.hid hi
  clear hi
  go_wp2_with fail
  refine (of_any _ _ _ HI.out).mono ?_
  rintro e woc ⟨sc, rfl, hs, -, k1⟩
  replace Ha := Lib.hid (Ha.out.onC k1)
  replace Hb := Lib.hid (Hb.out.onC k1)
  replace KK := Lib.hid (KK.out.then k1)
  obtain ⟨C, hM⟩ : ∃ M, M = maskOf (zs.take 60) := ⟨_, rfl⟩
  rw [← hM] at hs
  have SC : Hid (Small C) := hM ▸ maskOf_small _
  have HMC := Lib.hid hM
  have Hc := Lib.hid hs
  obtain ⟨lc, pc, nc, cc, rfl⟩ := hs.form
  clear hs k1 HI hM
  go_wp2_with fail
  simp only [List.append_eq, List.cons_append, List.nil_append]
  obtain ⟨ba, bb, bc, k0⟩ := box3 woc la lb lc pa pb pc na ca nb cb nc cc
  have Ba := Lib.hid ba; have Bb := Lib.hid bb; have Bc := Lib.hid bc
  replace Ha := Lib.hid (Ha.out.onC k0)
  replace Hb := Lib.hid (Hb.out.onC k0)
  replace Hc := Lib.hid (Hc.out.onC k0)
  replace KK := Lib.hid (KK.out.then k0)
  clear ba bb bc k0 HA HB HC HMA HMB HMC
  have k9 := (Kept.refl (fun _ => False) (((woc.alloc (.cells #[.int .u64 la, .slice pa na ca] 27)).alloc (.cells #[.int .u64 lb, .slice pb nb cb] 27)).alloc (.cells #[.int .u64 lc, .slice pc nc cc] 27))).drew
  replace Ha := Lib.hid (Ha.out.onC k9)
  replace Hb := Lib.hid (Hb.out.onC k9)
  replace Hc := Lib.hid (Hc.out.onC k9)
  replace Ba := Lib.hid (Ba.out.onC k9)
  replace Bb := Lib.hid (Bb.out.onC k9)
  replace Bc := Lib.hid (Bc.out.onC k9)
  replace KK := Lib.hid (KK.out.then k9)
  clear k9
  refine wp_region_held_drew (S := fun W => Kept (fun _ => False) (World.drew (((woc.alloc (.cells #[.int .u64 la, .slice pa na ca] 27)).alloc (.cells #[.int .u64 lb, .slice pb nb cb] 27)).alloc (.cells #[.int .u64 lc, .slice pc nc cc] 27))) W) (by kernel_rfl) (Kept.refl _ _) (fun hH => ?_)
  refine cast_ops (ops2 := opsL) (fuel2 := 121) (l2 := (List.replicate 0 true ++ List.replicate 121 false).toArray) (by kernel_rfl) (by kernel_rfl) (by kernel_rfl) ?_
  refine blw_0 _ woc.heap.size (woc.heap.size + 1) (woc.heap.size + 1 + 1) la na ca lb nb cb lc nc cc A B C pa pb pc Ba.out Bb.out Bc.out Ha.out Hb.out Hc.out SA.out SB.out SC.out _ (fun c a d v w h => by cases d <;> exact h) ?_ _ _ _ _ _ _ _ _ _ _ _ _ _ _ _ _ _ _ _ _ _ _ _ _ _ _ _ _ _ _ _ _ _ _ _ _ _ _ _ _ _ _ _ _ _ _ _ _ _ _ _ _ _ _ _ _ _ _ _ _ _ _ _ _ _ _ _ _ _ _ _ _ _ _ _ _ _ _ _ _ _ _ _ _ _ _ _ _ _ _ _ _ _ _ _ _ _ _ _ _ _ _ _ _ _ _ _ _ _ _ _ _ _ _ _ _ _ _ _ _ _ _ _ _ _ _ _ _ _ _ _ _ _ _ _ _ _ _ _ (Kept.refl _ _)
  intro u0 u1 u2 u3 u4 u5 u7 u8 u9 u10 u11 u12 u13 u14 u15 u16 u17 u18 u19 u20 u21 u22 u23 u24 u25 u26 u27 u28 u29 u30 u31 u32 u33 u34 u35 u36 u37 u38 u39 u40 u41 u42 u43 u44 u45 u46 u47 u48 u49 u50 u51 u52 u53 u54 u55 u56 u57 u58 u59 u60 u61 u62 u63 u64 u65 u66 u67 u68 u69 u70 u71 u72 u73 u74 u75 u76 u77 u78 u79 u80 u81 u82 u83 u84 u85 u86 u87 u88 u89 u90 u91 u92 u93 u94 u95 u96 u97 u98 u99 u100 u101 u102 u103 u104 u105 u106 u107 u108 u109 u110 u111 u112 u113 u114 u115 u116 u117 u118 u119 u120 u121 u122 u123 u124 u125 u126 u127 u128 u129 u130 u131 u132 u133 u134 u135 u136 u137 u138 u139 u140 W hW
  have KW := Lib.hid (KK.out.then hW)
  clear hW hH
  go_wp2_with fail
  go_ret
  exact ⟨rfl, KW.out⟩
end Go.Proofs.YtkgpnnegjhnjdaaDoor
/-
  Slices of ints and of bytes that came in.
-/
namespace Go.Proofs.YtkgpnnegjhnjdaaDoor
open Go.ChangeShapes Go.WideShapes Go.ChangeAt Go.RowKit Go.Joins

theorem in_ints {P : Program} {W : World} {base : Nat} {t e : TypeId} {a : Option Addr} {len cap : Nat} {zs : List Int} (ht : P.underlying t = some (.slice e)) (h : Value.okWide P W .any base t (.slice a len cap))
    (hr : (a = none ∧ len = 0 ∧ cap = 0 ∧ zs = []) ∨ ∃ x, a = some x ∧ len ≤ cap ∧ cap ≤ maxLen ∧ zs.length = cap ∧ (∀ i, i < zs.length → W.cell? (x.add i) = some (.int .i64 (zs.getD i 0)))) :
    Ints W (.slice a len cap) (zs.take len) := by
  rcases hr with ⟨rfl, rfl, rfl, rfl⟩ | ⟨x, rfl, hl, hm, hz, hc⟩
  · exact Or.inl ⟨rfl, rfl⟩
  · obtain ⟨hs, hb⟩ := okWide_at ht h
    obtain ⟨g, off, spot⟩ := x
    simp only at hs hb
    subst hs
    have hlen : (zs.take len).length = len := by simp; omega
    refine Or.inr ⟨g, off, cap, by rw [hlen], by omega, hm, hb, fun i hi => ?_⟩
    rw [hlen] at hi
    have hadd : (⟨g, off, none⟩ : Addr).add i = ⟨g, off + i, none⟩ := by unfold Addr.add; split <;> simp_all
    have := hc i (by omega)
    rw [hadd] at this
    rw [this]
    simp [List.getD, hi]

set_option maxRecDepth 100000 in
/-- A slice of ints that came in: it reads as numbers. -/
theorem ints_in {H : Type} {enc : TypeId × Value → H} {W : World} {base : Nat} {v : Value} {d : DataW H} {p : List MemPlace} (o : Value.okWide Tryd.prog W .any base 22 v) (h : DataW.Trod enc Tryd.prog W 0 (fun _ => true) true 22 v d p) :
    ∃ xs, Ints W v xs := by
  obtain ⟨a, len, cap, rfl⟩ := okWide_slice Tryd.underlying22 o
  have o' := o
  obtain ⟨fuel, hf⟩ := h
  rcases open_ints Tryd.underlying22 Tryd.underlying3 (by kernel_rfl) hf with ⟨hcs, _⟩ | ⟨x, l, c, zs, hcs, _, hl, hm, hz, _, hcell, hwz⟩
  · simp [Value.cells] at hcs
    obtain ⟨rfl, rfl, rfl⟩ := hcs
    exact ⟨_, in_ints Tryd.underlying22 o' (zs := []) (.inl ⟨rfl, rfl, rfl, rfl⟩)⟩
  · simp [Value.cells] at hcs
    obtain ⟨rfl, rfl, rfl⟩ := hcs
    exact ⟨_, in_ints Tryd.underlying22 o' (zs := zs) (.inr ⟨_, rfl, hl, hm, by simpa using hz, hcell⟩)⟩
end Go.Proofs.YtkgpnnegjhnjdaaDoor
