/-
  arbaclaw11.Make: a permission of both kinds.
-/
import Derived.Test.YtnnakllgfaaejaaGreatDoorPmP
import Derived.Test.YtnnakllgfaaejaaGreatDoorPmA
import Derived.Deep.RegionHeld3
import Derived.Deep.RegionWith
import Derived.Deep.Cut
import Derived.Deep.CutRange
namespace Go.Proofs.YtnnakllgfaaejaaGreatDoor
open Go.RowKit
set_option linter.unusedSimpArgs false
set_option linter.unusedVariables false

section
variable {P : Program}
def aggD : TypeDesc → Bool
  | .struct _ => true
  | .array _ _ => true
  | _ => false
theorem run_loadQ (w : World) (g off : Nat) (ty : TypeId) (cs : List Value) (d : TypeDesc) (hc : ∀ j v, cs[j]? = some v → w.cell? ⟨g, off + j, none⟩ = some v)
    (hu : P.underlying ty = some d) (hd : aggD d = true) (hi : (P.info? ty).map (·.size) = some cs.length) :
    (loadVar ty ⟨g, off, none⟩).run P w = .ok (.agg cs.toArray) w := by
  have hl : (loadCells ⟨g, off, none⟩ cs.length).run P w = .ok cs.toArray w :=
    run_loadCells_list (P := P) w ⟨g, off, none⟩ cs (fun j v hv => by
      have hadd : (⟨g, off, none⟩ : Addr).add j = ⟨g, off + j, none⟩ := by unfold Addr.add; split <;> simp_all
      rw [hadd]; exact hc j v hv)
  cases hq : P.info? ty with
  | none => simp [hq] at hi
  | some i =>
    have hs : i.size = cs.length := by simpa [hq] using hi
    have hagg : (isAgg ty).run P w = .ok true w := by
      unfold isAgg
      rw [Sem.run_bind, run_underlying hu w]
      cases d <;> simp_all [aggD]
    simp [loadVar, Sem.run_bind, hagg, sizeOf, typeInfo, hq, hs, hl]

theorem results_twoQ {fn : Func} {p q : Tmp} {ty tz : TypeId} (h : fn.results = #[.cell p ty, .cell q tz]) (tmps : Array Value) (w : World) (g g' : Nat) (cs cs' : List Value) (d d' : TypeDesc)
    (hp : tmps.getD p undef = .pointer (some ⟨g, 0, none⟩)) (hc : ∀ j v, cs[j]? = some v → w.cell? ⟨g, 0 + j, none⟩ = some v)
    (hu : P.underlying ty = some d) (hd : aggD d = true) (hi : (P.info? ty).map (·.size) = some cs.length)
    (hq : tmps.getD q undef = .pointer (some ⟨g', 0, none⟩)) (hc' : ∀ j v, cs'[j]? = some v → w.cell? ⟨g', 0 + j, none⟩ = some v)
    (hu' : P.underlying tz = some d') (hd' : aggD d' = true) (hi' : (P.info? tz).map (·.size) = some cs'.length) :
    (results fn tmps).run P w = .ok (.tuple #[.agg cs.toArray, .agg cs'.toArray]) w := by
  have hp' : tmps[p]?.getD undef = .pointer (some ⟨g, 0, none⟩) := by simpa using hp
  have hq' : tmps[q]?.getD undef = .pointer (some ⟨g', 0, none⟩) := by simpa using hq
  simp [results, h, hp', hq', asAddr, run_loadQ w g 0 ty cs d hc hu hd hi, run_loadQ w g' 0 tz cs' d' hc' hu' hd' hi']
theorem results_slotQ {fn : Func} {p q : Tmp} {ty : TypeId} (h : fn.results = #[.cell p ty, .tmp q]) (tmps : Array Value) (w : World) (g : Nat) (cs : List Value) (d : TypeDesc) (v : Value) (hq : tmps.getD q undef = v)
    (hp : tmps.getD p undef = .pointer (some ⟨g, 0, none⟩)) (hc : ∀ j v, cs[j]? = some v → w.cell? ⟨g, 0 + j, none⟩ = some v)
    (hu : P.underlying ty = some d) (hd : aggD d = true) (hi : (P.info? ty).map (·.size) = some cs.length) :
    (results fn tmps).run P w = .ok (.tuple #[.agg cs.toArray, v]) w := by
  have hp' : tmps[p]?.getD undef = .pointer (some ⟨g, 0, none⟩) := by simpa using hp
  have hq' : tmps[q]?.getD undef = v := by simpa using hq
  simp [results, h, hp', hq', asAddr, run_loadQ w g 0 ty cs d hc hu hd hi]
end

/-- A block of three cells. -/
def Zb (w : World) (g : Nat) (T : TypeId) (a p d : Value) : Prop := w.heap[g]? = some (.cells #[a, p, d] T (0, 0))
theorem Zb.kept {S : Nat → Prop} {u w : World} {g : Nat} {T : TypeId} {a p d : Value} (h : Zb u g T a p d) (hk : Kept S u w) (hS : ¬ S g) : Zb w g T a p d :=
  (hk.block g (Array.getElem?_eq_some_iff.1 h).1 hS).trans h
theorem Zb.new (w : World) (T : TypeId) (a p d : Value) : Zb (w.alloc (.cells #[a, p, d] T)) w.heap.size T a p d := heap_alloc_new w _
theorem Zb.cells {w : World} {g : Nat} {T : TypeId} {a p d : Value} (h : Zb w g T a p d) : (w.cell? ⟨g, 0, none⟩ = some a ∧ w.cell? ⟨g, 1, none⟩ = some p ∧ w.cell? ⟨g, 2, none⟩ = some d) ∧
    (w.frozen? ⟨g, 0, none⟩ = false ∧ w.frozen? ⟨g, 1, none⟩ = false ∧ w.frozen? ⟨g, 2, none⟩ = false) := by
  unfold Zb at h
  refine ⟨⟨?_, ?_, ?_⟩, ?_, ?_, ?_⟩ <;> simp [World.cell?, World.frozen?, h]

def put3 (q : World) (g : Nat) (a p : ByteArray) (d : Bool) : World := ((q.setCell ⟨g, 0, none⟩ (.string a)).setCell ⟨g, 1, none⟩ (.string p)).setCell ⟨g, 2, none⟩ (.bool d)
theorem put3_own (q : World) (g : Nat) (a p : ByteArray) (d : Bool) : Kept (fun k => k = g) q (put3 q g a p d) := by
  have k1 := Kept.setCell (fun k => k = g) q ⟨g, 0, none⟩ (.string a) rfl
  have k2 := Kept.setCell (fun k => k = g) (q.setCell ⟨g, 0, none⟩ (.string a)) ⟨g, 1, none⟩ (.string p) rfl
  have k3 := Kept.setCell (fun k => k = g) ((q.setCell ⟨g, 0, none⟩ (.string a)).setCell ⟨g, 1, none⟩ (.string p)) ⟨g, 2, none⟩ (.bool d) rfl
  exact (k1.trans k2 (fun _ _ h => h) (fun _ _ h => h)).trans k3 (fun _ _ h => h) (fun _ _ h => h)
theorem zb_put {W1 q : World} {g : Nat} {T : TypeId} {x y z : Value} (h : Zb q g T x y z) (hk : Kept (fun _ => False) W1 q) (hg : W1.heap.size ≤ g) (a p : ByteArray) (d : Bool) :
    Bx (put3 q g a p d) g a p d ∧ Kept (fun _ => False) W1 (put3 q g a p d) := by
  obtain ⟨⟨z0, z1, z2⟩, _⟩ := h.cells
  refine ⟨?_, hk.trans (put3_own q g a p d) (fun _ _ h => h) (fun i hi e => by omega)⟩
  unfold put3
  exact ⟨by go_simp, by go_simp, by go_simp⟩
theorem bx_list {w : World} {g : Nat} {a p : ByteArray} {d : Bool} (h : Bx w g a p d) : ∀ (j : Nat) (v : Value), ([.string a, .string p, .bool d] : List Value)[j]? = some v → w.cell? ⟨g, 0 + j, none⟩ = some v := fun j v hj => by
  rw [Nat.zero_add]
  match j, hj with
  | 0, hj => cases hj; exact h.c0
  | 1, hj => cases hj; exact h.c1
  | 2, hj => cases hj; exact h.c2
theorem ne_of_kept {w W q : World} (h : Kept (fun _ => False) W q) (e : Hid (W.heap.size = w.heap.size + 1 + 1 + 1)) : ¬ q.heap.size = w.heap.size ∧ ¬ w.heap.size = q.heap.size := by
  have h1 := h.size
  have h2 := e.out
  exact ⟨by omega, by omega⟩
/-- A raw permission that came in. -/
structure RawP where
  n : Nat
  xs : List Nat
  d : Bool
def RawP.per (r : RawP) : Per := ⟨actS r.n, rawS r.xs, r.d⟩
def RawIn (w : World) (v : Value) (r : RawP) (B : Nat) : Prop := ∃ nv, v = .agg #[.int .u8 r.n, nv, .bool r.d] ∧ Loose w nv r.xs B ∧ r.n < 256 ∧ (∀ x ∈ r.xs, x < 256) ∧ r.xs.length ≤ maxLen
theorem RawIn.kept {S : Nat → Prop} {a b : World} {v : Value} {r : RawP} {B : Nat} (h : RawIn a v r B) (hk : Kept S a b) (hS : ∀ k, k < B → ¬ S k) : RawIn b v r B := by
  obtain ⟨nv, h1, h2, h3⟩ := h
  exact ⟨nv, h1, h2.kept hk hS, h3⟩
theorem per_size (r : RawP) : r.per.a.size ≤ 18 ∧ r.per.p.size ≤ 20000 := ⟨actS_size r.n, rawS_size r.xs⟩

set_option maxRecDepth 100000 in
set_option maxHeartbeats 3200000 in
theorem make11_any (v : Value) (r : RawP) (B : Nat) (w : World) (h : RawIn w v r B) :
    Calls Tryz.prog 23 #[v] w fun e w' => e = .returned (.tuple #[perV r.per, perV r.per]) ∧ Kept (fun _ => False) w w' := by
  obtain ⟨nv, rfl, hl, hn, hx, hm⟩ := h
  obtain ⟨n, xs, d⟩ := r
  unfold perV RawP.per at *
  simp only at hl hn hx hm ⊢
  have HA := Lib.hid (fun W => raction_any n W hn)
  have HP := Lib.hid (fun W (hk : Kept (fun _ => False) w W) => rpath_any nv xs B W (hl.kept hk (fun _ _ h => h)) hx hm)
  generalize actS n = a at *
  generalize rawS xs = p at *
  have hsz : w.heap.size < w.heap.size + 1 := by omega
  clear hl hn hx hm
  have HZ1 := Lib.hid (Zb.new (w.alloc (.cells #[.int .u8 n, nv, .bool d] 25)) 35 (.string ⟨#[]⟩) (.string ⟨#[]⟩) (.bool false))
  have HZ2 := Lib.hid (Zb.new ((w.alloc (.cells #[.int .u8 n, nv, .bool d] 25)).alloc (.cells #[.string ⟨#[]⟩, .string ⟨#[]⟩, .bool false] 35)) 36 (.string ⟨#[]⟩) (.string ⟨#[]⟩) (.bool false))
  have HZ0 := Lib.hid (Zb.new w 25 (.int .u8 n) nv (.bool d))
  have HZ1b := Lib.hid (HZ1.out.kept (Kept.alloc (fun _ => False) _ (.cells #[.string ⟨#[]⟩, .string ⟨#[]⟩, .bool false] 36)) (fun h => h))
  have HZ0b := Lib.hid ((HZ0.out.kept (Kept.alloc (fun _ => False) _ (.cells #[.string ⟨#[]⟩, .string ⟨#[]⟩, .bool false] 35)) (fun h => h)).kept (Kept.alloc (fun _ => False) _ (.cells #[.string ⟨#[]⟩, .string ⟨#[]⟩, .bool false] 36)) (fun h => h))
  have HK := Lib.hid (((Kept.alloc (fun _ => False) w (.cells #[.int .u8 n, nv, .bool d] 25)).then (Kept.alloc (fun _ => False) _ (.cells #[.string ⟨#[]⟩, .string ⟨#[]⟩, .bool false] 35))).then (Kept.alloc (fun _ => False) _ (.cells #[.string ⟨#[]⟩, .string ⟨#[]⟩, .bool false] 36)))
  have e1 : (w.alloc (.cells #[.int .u8 n, nv, .bool d] 25)).heap.size = w.heap.size + 1 := by simp
  have e2 : ((w.alloc (.cells #[.int .u8 n, nv, .bool d] 25)).alloc (.cells #[.string ⟨#[]⟩, .string ⟨#[]⟩, .bool false] 35)).heap.size = w.heap.size + 1 + 1 := by simp
  have e3 : (((w.alloc (.cells #[.int .u8 n, nv, .bool d] 25)).alloc (.cells #[.string ⟨#[]⟩, .string ⟨#[]⟩, .bool false] 35)).alloc (.cells #[.string ⟨#[]⟩, .string ⟨#[]⟩, .bool false] 36)).heap.size = w.heap.size + 1 + 1 + 1 := by simp
  rw [e1] at HZ1b
  rw [e2] at HZ2
  have E3 := Lib.hid e3
  clear HZ0 HZ1 e1 e2 e3 hsz
  go_enter Tryz.func23, Tryz.ntmps23
  go_wp2_with fail
  generalize ((w.alloc (.cells #[.int .u8 n, nv, .bool d] 25)).alloc (.cells #[.string ⟨#[]⟩, .string ⟨#[]⟩, .bool false] 35)).alloc (.cells #[.string ⟨#[]⟩, .string ⟨#[]⟩, .bool false] 36) = W1 at *
  obtain ⟨⟨c0, c1, c2⟩, _⟩ := HZ0b.out.cells
  have HS : Hid (∀ W, Kept (fun _ => False) W1 W → (W.cell? ⟨w.heap.size, 0, none⟩ = some (.int .u8 n) ∧ W.cell? ⟨w.heap.size, 1, none⟩ = some nv ∧ W.cell? ⟨w.heap.size, 2, none⟩ = some (.bool d))) := Lib.hid fun W hk => (HZ0b.out.kept hk (fun h => h)).cells.1
  go_cut [4] from 4 to 13 (fun pv wx => ∃ g, pv = .pointer (some ⟨g, 0, none⟩) ∧ W1.heap.size ≤ g ∧ Hid (Bx wx g a p d) ∧ Hid (Kept (fun _ => False) W1 wx))
  case first =>
    have n0 : ¬ w.heap.size = W1.heap.size := by have h2 := E3.out; omega
    have n1 : ¬ W1.heap.size = w.heap.size := by have h2 := E3.out; omega
    go_region_held3 (fun W => W.cell? ⟨w.heap.size, 0, none⟩ = some (.int .u8 n) ∧ W.cell? ⟨w.heap.size, 1, none⟩ = some nv ∧ W.cell? ⟨w.heap.size, 2, none⟩ = some (.bool d))
      (first | exact HS.out _ KC.out | exact HS.out _ (Kept.refl _ _) | exact HS.out _ (Kept.refl _ _).drew | exact HS.out _ (KC.out.then (Kept.alloc _ _ _)) | exact HS.out _ (((Kept.refl _ _).drew).then (Kept.alloc _ _ _)) | exact HS.out _ ((Kept.refl _ _).then (Kept.alloc _ _ _)) | go_keep)
      ((first | (go_at_call 10; with_reducible refine (HA.out _).mono ?_; rintro e q1 ⟨rfl, j1⟩; have KD := Lib.hid (Kept.then (show Kept (fun _ => False) W1 _ from (by first | exact KC.out | exact Kept.refl _ _ | exact (Kept.refl _ _).drew | exact KC.out.then (Kept.alloc _ _ _) | exact ((Kept.refl _ _).drew).then (Kept.alloc _ _ _) | exact (Kept.refl _ _).then (Kept.alloc _ _ _))) j1); (try clear KC); have KC := KD; clear KD; (first | (have ZY := Lib.hid (ZZ.out.kept j1 (fun h => h)); clear ZZ; have ZZ := ZY; clear ZY) | (have ZZ : Hid (Zb q1 W1.heap.size 36 (.string ⟨#[]⟩) (.string ⟨#[]⟩) (.bool false)) := Lib.hid (((Zb.new W1 36 (.string ⟨#[]⟩) (.string ⟨#[]⟩) (.bool false)).kept ((Kept.refl (fun _ => False) _).drew) (fun h => h)).kept j1 (fun h => h))) | (have ZZ := Lib.hid ((Zb.new _ 36 (.string ⟨#[]⟩) (.string ⟨#[]⟩) (.bool false)).kept j1 (fun h => h))) | skip); (try (obtain ⟨⟨z0, z1, z2⟩, y0, y1, y2⟩ := ZZ.out.cells)); obtain ⟨d0, d1, d2⟩ := HS.out _ KC.out; obtain ⟨nn, nm⟩ := ne_of_kept KC.out E3; have hz := KC.out.size; clear j1) | (go_at_call 11; with_reducible refine (HP.out _ (HK.out.then (by first | exact KC.out | exact Kept.refl _ _ | exact (Kept.refl _ _).drew | exact KC.out.then (Kept.alloc _ _ _) | exact ((Kept.refl _ _).drew).then (Kept.alloc _ _ _) | exact (Kept.refl _ _).then (Kept.alloc _ _ _)))).mono ?_; rintro e q1 ⟨rfl, j1⟩; have KD := Lib.hid (Kept.then (show Kept (fun _ => False) W1 _ from (by first | exact KC.out | exact Kept.refl _ _ | exact (Kept.refl _ _).drew | exact KC.out.then (Kept.alloc _ _ _) | exact ((Kept.refl _ _).drew).then (Kept.alloc _ _ _) | exact (Kept.refl _ _).then (Kept.alloc _ _ _))) j1); (try clear KC); have KC := KD; clear KD; (first | (have ZY := Lib.hid (ZZ.out.kept j1 (fun h => h)); clear ZZ; have ZZ := ZY; clear ZY) | (have ZZ : Hid (Zb q1 W1.heap.size 36 (.string ⟨#[]⟩) (.string ⟨#[]⟩) (.bool false)) := Lib.hid (((Zb.new W1 36 (.string ⟨#[]⟩) (.string ⟨#[]⟩) (.bool false)).kept ((Kept.refl (fun _ => False) _).drew) (fun h => h)).kept j1 (fun h => h))) | (have ZZ := Lib.hid ((Zb.new _ 36 (.string ⟨#[]⟩) (.string ⟨#[]⟩) (.bool false)).kept j1 (fun h => h))) | skip); (try (obtain ⟨⟨z0, z1, z2⟩, y0, y1, y2⟩ := ZZ.out.cells)); obtain ⟨d0, d1, d2⟩ := HS.out _ KC.out; obtain ⟨nn, nm⟩ := ne_of_kept KC.out E3; have hz := KC.out.size; clear j1)))
    all_goals
      go_wp2_with fail
      go_meet
      first
        | exact ⟨_, rfl, by assumption, Bx.new q1 a p d _, KC.out.then (Kept.alloc _ _ _)⟩
        | exact ⟨_, rfl, by assumption, (zb_put ZZ.out KC.out (by assumption) a p d).1, (zb_put ZZ.out KC.out (by assumption) a p d).2⟩
        | exact ⟨_, rfl, Nat.le_refl _, (zb_put ZZ.out KC.out (Nat.le_refl _) a p d).1, (zb_put ZZ.out KC.out (Nat.le_refl _) a p d).2⟩
  case rest =>
    obtain ⟨g, rfl, hg, hbx, hkx⟩ := hcut
    have g1 : ¬ g = w.heap.size + 1 := by have := E3.out; omega
    have g2 : ¬ g = w.heap.size + 1 + 1 := by have := E3.out; omega
    have g3 : ¬ w.heap.size + 1 = g := by have := E3.out; omega
    have g4 : ¬ w.heap.size + 1 + 1 = g := by have := E3.out; omega
    obtain ⟨b0, b1, b2⟩ := hbx.out
    have Z1 := HZ1b.out.kept hkx.out (fun h => h)
    have Z2 := HZ2.out.kept hkx.out (fun h => h)
    obtain ⟨⟨x0, x1, x2⟩, f0, f1, f2⟩ := Z1.cells
    obtain ⟨⟨y0, y1, y2⟩, h0, h1, h2⟩ := Z2.cells
    have hkx2 := HK.out.then hkx.out
    obtain ⟨p1, p2⟩ := zb_put Z1 hkx2 (by omega) a p d
    have Z2b := Z2.kept (put3_own wc (w.heap.size + 1) a p d) (by show ¬ w.heap.size + 1 + 1 = w.heap.size + 1; omega)
    obtain ⟨p3, p4⟩ := zb_put Z2b p2 (by omega) a p d
    have p5 := p1.kept (put3_own _ (w.heap.size + 1 + 1) a p d) (by show ¬ w.heap.size + 1 = w.heap.size + 1 + 1; omega)
    have P3 := Lib.hid p3; have P4 := Lib.hid p4; have P5 := Lib.hid p5
    clear HA HP HZ0b HZ1b HZ2 HS Z1 Z2 Z2b hkx hbx hkx2 p1 p2 p3 p4 p5
    go_wp2_with fail
    go_region
    have HF : ∃ W, W = put3 (put3 wc (w.heap.size + 1) a p d) (w.heap.size + 1 + 1) a p d := ⟨_, rfl⟩
    obtain ⟨WF, hWF⟩ := HF
    rw [← hWF] at P3 P4 P5
    unfold put3 at hWF
    rw [← hWF]
    clear hWF b0 b1 b2 x0 x1 x2 f0 f1 f2 y0 y1 y2 h0 h1 h2
    have Q3 : Hid (Bx WF.drew (w.heap.size + 1 + 1) a p d) := Lib.hid (P3.out.stay (Kept.refl _ _).drew)
    have Q5 : Hid (Bx WF.drew (w.heap.size + 1) a p d) := Lib.hid (P5.out.stay (Kept.refl _ _).drew)
    go_wp2_with fail
    refine bodyPost_ret_by (v := .tuple #[.agg #[.string a, .string p, .bool d], .agg #[.string a, .string p, .bool d]]) ?_ rfl ⟨rfl, P4.out.drew⟩
    exact results_twoQ Tryz.results23 _ _ (w.heap.size + 1) (w.heap.size + 1 + 1) [.string a, .string p, .bool d] [.string a, .string p, .bool d] _ _ rfl (bx_list Q5.out) Tryz.underlying35 rfl (by kernel_rfl) rfl (bx_list Q3.out) Tryz.underlying36 rfl (by kernel_rfl)
end Go.Proofs.YtnnakllgfaaejaaGreatDoor
