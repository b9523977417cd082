/-
  Permissions: Normal.
-/
import Derived.Test.YtcooacjpblhblaaDoorPmS
import Derived.Test.YtcooacjpblhblaaDoorPmSo
namespace Go.Proofs.YtcooacjpblhblaaDoor
open Go.RowKit Go.Maps Go.WideMaps Go.ChangeMaps
set_option linter.unusedSimpArgs false
set_option linter.unusedVariables false

theorem info_perQ : (Tryd.prog.info? 27).map (fun i => (i.zero, i.size, i.bytes)) = some (some (.agg #[.string ⟨#[]⟩, .string ⟨#[]⟩, .bool false]), 3, 40) := by kernel_rfl
theorem OwnQ.alloc {T : TypeId} {B : Nat} {w : World} {v : Value} {l : List Per} (h : OwnQ T B w v l) (o : Obj) : OwnQ T B (w.alloc o) v l := World.ownsRow.alloc h o
theorem OwnQ.low {T : TypeId} {B B' : Nat} {w : World} {v : Value} {l : List Per} (h : OwnQ T B w v l) (hB : B' ≤ B) : OwnQ T B' w v l := by
  refine ⟨h.1, ?_⟩
  rcases h.2 with e | ⟨g, cap, cur, e, hb, r⟩
  · exact Or.inl e
  · exact Or.inr ⟨g, cap, cur, e, Nat.le_trans hB hb, r⟩
theorem OwnQ.lt {T : TypeId} {B : Nat} {w : World} {v : Value} {l : List Per} (h : OwnQ T B w v l) : ∀ k, v.ownBlock = some k → B ≤ k ∧ k < w.heap.size := fun k hk => World.ownsRow.lt h k hk
theorem Bx.pers {w : World} {g : Nat} {x : Per} (h : Bx w g x.a x.p x.d) : Pers w (.slice (some ⟨g, 0, none⟩) 1 1) [x] :=
  Or.inr ⟨g, 0, 1, rfl, Nat.le_refl _, by unfold maxLen; omega, World.block_lt_of_cell? w _ h.c0, fun i hi => by
    obtain rfl : i = 0 := by simpa using hi
    exact ⟨h.c0, h.c1, h.c2⟩⟩

/-- An append whose run is known, asked for or not (a guard that holds). -/
theorem wpList_appendQ_run {P : Program} {w : World} {ops : Array Oper} {rest : List Oper} {o : Oper} {a : Act} {Q : Exit → Act → World → Prop} (hw : Region.wanted o (yielded ops a.tmps) = true) (s x : Operand) (t t' : TypeId)
    (ho : o.op = .call { callee := .builtin .append, args := #[s, x], argTypes := #[t, t'] }) (v u : Value) (hd : a.eval s = v) (hs : a.eval x = u) {v' : Value} {w' : World}
    (hr : (Builtin.append_ #[t, t'] o.type #[v, u]).run P w = .ok v' w') (h : wpList P ops Q rest (a.put o.dst v') w') : wpList P ops Q (o :: rest) a w := by
  refine wpList_step fun K hK => ?_
  rw [if_pos hw]
  unfold Oper.wp execOp
  simp only [ho, resolve, invoke, builtin, Sem.run_bind, Sem.run_pure, Result.andThen_ok, List.map_toArray, List.map_cons, List.map_nil, hd, hs, hr]
  exact hK _ _ h
/-- An append of one permission to a row of the call's own. -/
theorem wpList_pushQ {ts te : TypeId} (hu : Tryd.prog.underlying ts = some (.slice te)) (hie : (Tryd.prog.info? te).map (fun i => (i.zero, i.size, i.bytes)) = some (some (.agg #[.string ⟨#[]⟩, .string ⟨#[]⟩, .bool false]), 3, 40))
    {w : World} {ops : Array Oper} {rest : List Oper} {o : Oper} {a : Act} {Q : Exit → Act → World → Prop} (hw : Region.wanted o (yielded ops a.tmps) = true) (s x : Operand)
    (ho : o.op = .call { callee := .builtin .append, args := #[s, x], argTypes := #[ts, ts] }) (hty : o.type = ts) (B : Nat) (v : Value) (acc : List Per) (g : Nat) (z : Per) (hd : a.eval s = v) (hs : a.eval x = .slice (some ⟨g, 0, none⟩) 1 1)
    (hown : OwnQ te B w v acc) (hz : Bx w g z.a z.p z.d) (hl : acc.length ≤ 900000) (hB : B ≤ w.heap.size)
    (h : ∀ a' c' w', OwnQ te B w' (.slice a' (acc.length + 1) c') (acc ++ [z]) → Kept (fun k => v.ownBlock = some k) w w' → wpList Tryd.prog ops Q rest (a.put o.dst (.slice a' (acc.length + 1) c')) w') : wpList Tryd.prog ops Q (o :: rest) a w := by
  obtain ⟨a', c', w', hr, hf, hk⟩ := append_pers_run hu hie hown hz.pers (by simp; omega) hB
  rw [List.length_append] at hr hf
  exact wpList_appendQ_run hw s x _ _ ho _ _ hd hs (by rw [hty]; exact hr) (h _ _ _ hf hk)

abbrev tQ : TypeId := 27
theorem rangesQ_kept {a b : World} {bs r n cnt : Nat} {D : DataW Unit} {left : Lit → Bool} (h : a.ranges Tryd.prog 27 (plainElem Tryd.prog 4) bs r n D left cnt) (hk : Kept (fun _ => False) a b) : b.ranges Tryd.prog 27 (plainElem Tryd.prog 4) bs r n D left cnt := by
  obtain ⟨es, clock, since, seen, c0, h1, h2, h3, h4, h5, h6⟩ := h
  exact ⟨es, clock, since, seen, c0, (hk.block bs (Array.getElem?_eq_some_iff.1 h1).1 (fun h => h)).trans h1, h2, h3, h4, (hk.block r (Array.getElem?_eq_some_iff.1 h5).1 (fun h => h)).trans h5, h6⟩

/-- What Normal answers. -/
structure NormRes (w w' : World) (l : List Per) (v : Value) (r : List Per) : Prop where
  norm : NormS l r
  own : OwnQ 27 w.heap.size w' v r
  kept : Kept (fun _ => False) w w'
  len : r.length ≤ l.length

/-- What has been found so far. -/
structure NmInv (w wr : World) (m n : Nat) (D : DataW Unit) (l : List Per) (v : Value) (acc : List Per) (left : Lit → Bool) (cnt : Nat) : Prop where
  rg : wr.ranges Tryd.prog 27 (plainElem Tryd.prog 4) m w.heap.size n D left cnt
  row : OwnQ 27 w.heap.size wr v acc
  mem : ∀ x, x ∈ acc ↔ (x ∈ l ∧ okP x = true ∧ left (klQ x) = false ∧ excP l x = false)
  nodup : acc.Nodup
  len : acc.length + cnt ≤ n
  kept : Kept (fun _ => False) w wr

theorem klQ_same {x y : Per} : (klQ x).sameKey (klQ y) = true ↔ klQ x = klQ y := ⟨fun e => WideAt.sameKey_eq e, fun e => by rw [e]; exact WideAt.sameKey_self (a := klQ y) trivial⟩
theorem leftQ {left : Lit → Bool} {x y : Per} (hx : smallQ x) (hy : smallQ y) : (left (klQ x) && !(klQ x).sameKey (klQ y)) = false ↔ (left (klQ x) = false ∨ x = y) := by
  rw [Bool.and_eq_false_iff]
  constructor
  · rintro (e | e)
    · exact Or.inl e
    · right
      rw [Bool.not_eq_false'] at e
      exact klQ_inj hx hy (klQ_same.1 e)
  · rintro (e | rfl)
    · exact Or.inl e
    · right
      rw [klQ_same.2 rfl]; rfl
theorem nodup_le {l m : List Per} (hn : l.Nodup) (h : ∀ x ∈ l, x ∈ m) : l.length ≤ m.length := by
  induction l generalizing m with
  | nil => exact Nat.zero_le _
  | cons x t ih =>
    have hx : x ∈ m := h x (by simp)
    have h2 := ih (m := m.erase x) (List.nodup_cons.1 hn).2 fun y hy => by
      have hne : y ≠ x := fun e => by subst e; exact (List.nodup_cons.1 hn).1 hy
      exact (List.mem_erase_of_ne hne).2 (h y (List.mem_cons_of_mem _ hy))
    rw [List.length_erase_of_mem hx] at h2
    have : 0 < m.length := List.length_pos_of_mem hx
    rw [List.length_cons]; omega

set_option maxRecDepth 100000 in
set_option maxHeartbeats 3200000 in
theorem normal_any (w0 : World) (v : Value) (l : List Per) (h : Pers w0 v l) (hb : bdQ l) (hl : l.length ≤ 50000) :
    Calls Tryd.prog 26 #[v] w0 fun e w' => ∃ v' r, e = .returned v' ∧ NormRes w0 w' l v' r := by
  have HS := Lib.hid (setOf_any w0 v l h hb (by omega))
  have HBD := Lib.hid hb
  clear h hb
  go_enter Tryd.func26, Tryd.ntmps26
  go_wp2_with fail
  refine HS.out.mono ?_
  rintro e w ⟨m, n, D, rfl, h1, h2, hnl, hm0, k0⟩
  have H1 := Lib.hid h1; have H2 := Lib.hid h2; have K0 := Lib.hid k0
  have hml := h1.lt
  have hsz := h1.size_le
  clear HS h1 h2 k0
  go_wp2_with (first
    | (at_range; refine wpList_range_own _ rfl _ 72 rfl 27 4 lawQ Tryd.underlying72 _ m n _ rfl H1.out ?_; intro w1 hrg0 hg0 hs0)
    | fail)
  try go_frame
  have HI0 : Hid (NmInv w w1 m n D l (.slice none 0 0) [] (Maps.has D) (Maps.size D)) :=
    ⟨hrg0, OwnQ.nil _ _ _, (fun x => by
      constructor
      · intro hh; simp at hh
      · rintro ⟨a1, a2, a3, _⟩
        have := (H2.out x (bdQ_small HBD.out a1)).1
        rw [this] at a3
        have h4 := (memP_iff l x).2 ⟨a1, a2⟩
        rw [h4] at a3; cases a3), List.nodup_nil, by simpa using hsz, Kept.ofGrown hg0 (fun k e => by cases e)⟩
  clear hrg0 hg0
  go_loopw [4, 5] (fun lv _ wr => ∃ (left : Lit → Bool) (cnt : Nat) (a : Option Addr) (c : Nat) (acc : List Per), lv = .slice a acc.length c ∧ Hid (NmInv w wr m n D l (.slice a acc.length c) acc left cnt))
    (fun _ _ wr => wr.rangeLeft m w.heap.size)
  case atStart => exact ⟨_, _, none, 0, [], rfl, HI0⟩
  case round =>
    obtain ⟨left, cnt, a, c, acc, rfl, hI⟩ := hrel
    have hrg := hI.out.rg
    clear HI0
    go_wp2_with (first
      | (at_next; refine wpList_next_ranges _ rfl _ rfl 27 lawQ (plainElem Tryd.prog 4) perV vB (fun key kl h => by obtain ⟨s, rfl, _⟩ := key_invQ h; exact ⟨s, rfl⟩) (fun v y h => pl_vB_inv h) m w.heap.size n _ _ _ rfl hrg ?_ ?_)
      | fail)
    · intro hc0 hl0
      have hmem := hI.out.mem
      have hown := hI.out.row
      have hnd := hI.out.nodup
      have hle := hI.out.len
      have hkw := hI.out.kept
      have hpth : ∀ x ∈ acc, okP x = true := fun x hx => ((hmem x).1 hx).2.1
      have HMEM : Hid (∀ x, x ∈ acc ↔ (x ∈ l ∧ okP x = true ∧ excP l x = false)) := fun x => by rw [hmem x, hl0]; simp
      have HLEN : Hid (acc.length ≤ l.length) := Lib.hid (nodup_le hnd fun x hx => ((hmem x).1 hx).1)
      have HW : Hid (w0.heap.size ≤ w.heap.size) := Lib.hid K0.out.size
      by_cases hn0 : acc = []
      · subst hn0
        have HR : Hid (NormRes w0 wr l (.slice a 0 c) []) := ⟨⟨⟨List.Pairwise.nil, by simp⟩, HMEM.out⟩, hown.low HW.out, K0.out.then hkw, by simp⟩
        clear hmem hown hnd hle hkw hpth hI hrg hl0
        go_wp2_with fail
        refine (sortq_none a c _ _).mono ?_
        rintro e w2 ⟨rfl, rfl⟩
        go_wp2_with fail
        go_ret
        exact ⟨_, _, rfl, HR.out⟩
      · obtain ⟨gb, rfl⟩ : ∃ gb, a = some ⟨gb, 0, none⟩ := by
          rcases hown.2 with ⟨_, h0⟩ | ⟨g', cap, cur, e, _⟩
          · exact absurd (List.length_eq_zero_iff.1 h0) hn0
          · cases e; exact ⟨g', rfl⟩
        have hS := sortq_some _ wr w.heap.size gb c acc hown hpth hnd (by have := HLEN.out; omega)
        have hgb : w.heap.size ≤ gb := (hown.lt gb rfl).1
        obtain ⟨q, hq⟩ : ∃ q, q = acc.length := ⟨_, rfl⟩
        have HS := Lib.hid hS; have HKW := Lib.hid hkw; have HQ := Lib.hid hq
        rw [← hq] at HS ⊢
        clear hmem hown hnd hle hkw hpth hI hrg hl0 hS hq hn0
        go_wp2_with fail
        refine HS.out.mono ?_
        rintro e w2 ⟨rfl, r, hr1, hr2, hr3, hr4, hr5, hr6⟩
        have HR : Hid (NormRes w0 w2 l (.slice (some ⟨gb, 0, none⟩) q c) r) := ⟨⟨hr1, fun x => by rw [hr2 x]; exact HMEM.out x⟩, hr5.low HW.out, K0.out.then (HKW.out.trans hr6 (fun _ _ h => h) (fun i hi e => by omega)), by have := HLEN.out; have := HQ.out; omega⟩
        clear hr1 hr2 hr3 hr4 hr5 hr6
        go_wp2_with fail
        go_ret
        exact ⟨_, _, rfl, HR.out⟩
    · intro x cv kl y ys w1 cnt1 hkey hlx hv hat hrg1 hlt hg1 hs1 hen
      have hvb : vB cv = .bool (decide (cv = 1)) := rfl
      rw [hvb] at hv hen ⊢
      generalize decide (cv = 1) = cb at hv hen ⊢
      obtain ⟨x', ex, rfl, hxs1, hxs2⟩ := key_invQ hkey
      obtain rfl := perV_inj ex
      have hsx : smallQ x := ⟨hxs1, hxs2⟩
      have hxl : x ∈ l ∧ okP x = true := by
        have := has_true_of_atKey hat
        rw [(H2.out x hsx).1] at this
        exact (memP_iff l x).1 this
      have hxz := HBD.out x hxl.1
      have hmem := hI.out.mem
      have hxa : x ∉ acc := fun e => by have := ((hmem x).1 e).2.2.1; rw [hlx] at this; cases this
      have hk01 : Kept (fun k => k = w.heap.size) wr w1 := Kept.ofGrown hg1 (fun k e => (Option.some.inj e).symm)
      have hkw1 : Kept (fun _ => False) w w1 := hI.out.kept.trans hk01 (fun _ _ h => h) (fun i hi e => by omega)
      have hnotit : ∀ k, (Value.slice a acc.length c).ownBlock = some k → k ≠ w.heap.size := fun k hk e => by
        subst e
        have hb := hI.out.row
        rcases hb.2 with ⟨e, _⟩ | ⟨g', cap, cur, e, _, hh, _⟩
        · injection e with e1 e2 e3; rw [e1] at hk; cases hk
        · cases e
          have hgw : g' = w.heap.size := by simpa [Value.ownBlock] using hk
          obtain ⟨es, clock, since, seen, c0, _, _, _, _, h5, _⟩ := hrg
          rw [hgw, h5] at hh
          cases hh
      have hrow1 : OwnQ 27 w.heap.size w1 (.slice a acc.length c) acc := hI.out.row.kept hk01 hnotit
      have hnd := hI.out.nodup
      have hle := hI.out.len
      have hmapw1 := ownMQ_kept H1.out hkw1 (fun h => h)
      have hmem1 : excP l x = true → ∀ s, s ∈ acc ↔ (s ∈ l ∧ okP s = true ∧ (left (klQ s) && !(klQ s).sameKey (klQ x)) = false ∧ excP l s = false) := fun hkx s => by
        rw [hmem s]
        constructor
        · rintro ⟨a1, a2, a3, a4⟩; exact ⟨a1, a2, (leftQ (bdQ_small HBD.out a1) hsx).2 (Or.inl a3), a4⟩
        · rintro ⟨a1, a2, a3, a4⟩
          rcases (leftQ (bdQ_small HBD.out a1) hsx).1 a3 with a3 | rfl
          · exact ⟨a1, a2, a3, a4⟩
          · rw [hkx] at a4; cases a4
      have hmem2 : excP l x = false → ∀ s, s ∈ acc ++ [x] ↔ (s ∈ l ∧ okP s = true ∧ (left (klQ s) && !(klQ s).sameKey (klQ x)) = false ∧ excP l s = false) := fun hkx s => by
        rw [List.mem_append, hmem s, List.mem_singleton]
        constructor
        · rintro (⟨a1, a2, a3, a4⟩ | rfl)
          · exact ⟨a1, a2, (leftQ (bdQ_small HBD.out a1) hsx).2 (Or.inl a3), a4⟩
          · exact ⟨hxl.1, hxl.2, (leftQ hsx hsx).2 (Or.inr rfl), hkx⟩
        · rintro ⟨a1, a2, a3, a4⟩
          rcases (leftQ (bdQ_small HBD.out a1) hsx).1 a3 with a3 | rfl
          · exact Or.inl ⟨a1, a2, a3, a4⟩
          · exact Or.inr rfl
      have HM1 := Lib.hid hmem1; have HM2 := Lib.hid hmem2; have HND := Lib.hid hnd; have HXA := Lib.hid hxa
      have HRG1 := Lib.hid hrg1; have HROW1 := Lib.hid hrow1; have HKW1 := Lib.hid hkw1; have HLE := Lib.hid hle
      have HLEQ := Lib.hid hrg.left_eq
      have hal : acc.length ≤ 50000 := by omega
      have hax := ask_exc (l := l) hxl.2
      obtain ⟨xa, xp, xd⟩ := x
      simp only at hxz
      have HKx := Lib.hid (fun W (hW : Kept (fun _ => False) w1 W) => exceeds_any W m n D (memP l) ⟨xa, xp, xd⟩ (ownMQ_kept hmapw1 hW (fun h => h)) H2.out hxz.1 hxz.2)
      rw [hax] at HKx
      obtain ⟨b, hb⟩ : ∃ b, b = excP l ⟨xa, xp, xd⟩ := ⟨_, rfl⟩
      rw [← hb] at HKx
      have HB := Lib.hid hb
      obtain ⟨kx, hkx⟩ : ∃ kx, kx = klQ ⟨xa, xp, xd⟩ := ⟨_, rfl⟩
      rw [← hkx] at HM1 HM2 HRG1
      have HBX := Lib.hid (Bx.new w1 xa xp xd 27)
      rw [hs1] at HBX
      have HKA := Lib.hid (Kept.alloc (fun _ => False) w1 (.cells #[.string xa, .string xp, .bool xd] 27))
      unfold perV at HKx hen ⊢
      simp only at HKx hen ⊢
      clear hmem hxl hxz hxa hk01 hrow1 hnd hle hmem1 hmem2 hI hrg hrg1 hv hat hkey hg1 hvb hnotit hkw1 hb hax hmapw1 hsx hkx hxs1 hxs2 ex
      cases b with
      | true =>
        go_wp2_with (first
          | (go_at_call 46; refine (HKx.out _ HKA.out).mono ?_
             generalize w1.alloc (.cells #[.string xa, .string xp, .bool xd] 27) = W2 at *
             rintro e w3 ⟨rfl, hk3⟩; have HK3 := Lib.hid (HKA.out.then hk3); clear hk3))
        have HI3 : Hid (NmInv w w3 m n D l (.slice a acc.length c) acc (fun z => left z && !z.sameKey kx) cnt1) := ⟨rangesQ_kept HRG1.out HK3.out, HROW1.out.kept HK3.out (fun _ _ h => h), HM1.out HB.out.symm, HND.out, by have := HLE.out; omega, HKW1.out.then HK3.out⟩
        have HL3 := Lib.hid (rangesQ_kept HRG1.out HK3.out).left_eq
        go_roundw
        case rel => exact ⟨_, cnt1, a, c, acc, rfl, HI3⟩
        case measure => rw [HL3.out, HLEQ.out]; exact hlt
      | false =>
        go_wp2_with (first
          | (go_at_call 46; refine (HKx.out _ HKA.out).mono ?_
             generalize w1.alloc (.cells #[.string xa, .string xp, .bool xd] 27) = W2 at *
             rintro e w3 ⟨rfl, hk3⟩; have HK3 := Lib.hid (HKA.out.then hk3); obtain ⟨c0, c1, c2⟩ := HBX.out.stay hk3; have hsz3 := (HKW1.out.then HK3.out).size
             have HROW3 := Lib.hid (HROW1.out.kept HK3.out (fun _ _ h => h)); have HRG3 := Lib.hid (rangesQ_kept HRG1.out HK3.out); clear hk3)
          | (at_builtin; refine wpList_pushQ Tryd.underlying54 info_perQ (by rfl) _ _ rfl rfl w.heap.size _ acc w3.heap.size ⟨xa, xp, xd⟩ rfl rfl (HROW3.out.alloc _) (Bx.new w3 xa xp xd 27) (by omega) (by simp; omega) ?_; intro a' c' w4 hown4 hk4; have HOWN4 := Lib.hid hown4; have HKK4 := Lib.hid hk4; clear hown4 hk4))
        have hown4 := HOWN4.out
        have hk4 := HKK4.out
        have hka : Kept (fun _ => False) w3 (w3.alloc (.cells #[.string xa, .string xp, .bool xd] 27)) := Kept.alloc _ _ _
        have hrg4 : w4.ranges Tryd.prog 27 (plainElem Tryd.prog 4) m w.heap.size n D (fun z => left z && !z.sameKey kx) cnt1 := by
          have hq := rangesQ_kept HRG3.out hka
          obtain ⟨es, clock, since, seen, c0, q1, q2, q3, q4, q5, q6⟩ := hq
          have hnb : ∀ k, (Value.slice a acc.length c).ownBlock = some k → k ≠ w.heap.size ∧ w.heap.size ≤ k := fun k hk => by
            refine ⟨fun e => ?_, (HROW3.out.lt k hk).1⟩
            subst e
            rcases (HROW3.out.alloc (.cells #[.string xa, .string xp, .bool xd] 27)).2 with ⟨e, _⟩ | ⟨g', cap, cur, e, _, hh, _⟩
            · injection e with e1 e2 e3; rw [e1] at hk; cases hk
            · cases e
              have hgw : g' = w.heap.size := by simpa [Value.ownBlock] using hk
              rw [hgw, q5] at hh
              cases hh
          exact ⟨es, clock, since, seen, c0, (hk4.block m (Array.getElem?_eq_some_iff.1 q1).1 (fun e => by have := (hnb m e).2; omega)).trans q1, q2, q3, q4, (hk4.block w.heap.size (Array.getElem?_eq_some_iff.1 q5).1 (fun e => (hnb _ e).1 rfl)).trans q5, q6⟩
        have HI4 : Hid (NmInv w w4 m n D l (.slice a' (acc ++ [Per.mk xa xp xd]).length c') (acc ++ [⟨xa, xp, xd⟩]) (fun z => left z && !z.sameKey kx) cnt1) :=
          ⟨hrg4, by rw [List.length_append]; exact hown4, HM2.out HB.out.symm, by rw [List.nodup_append]; exact ⟨HND.out, by simp, fun p hp q hq e => by simp at hq; subst hq; subst e; exact HXA.out hp⟩, by rw [List.length_append]; have := HLE.out; simp; omega, ((HKW1.out.then HK3.out).then hka).trans hk4 (fun _ _ h => h) (fun i hi e => by have := (HROW3.out.lt i e).1; omega)⟩
        have HL4 := Lib.hid hrg4.left_eq
        clear hown4 hk4 hka hrg4
        go_roundw
        case rel => exact ⟨_, cnt1, a', c', acc ++ [Per.mk xa xp xd], by rw [List.length_append]; rfl, HI4⟩
        case measure => rw [HL4.out, HLEQ.out]; exact hlt
end Go.Proofs.YtcooacjpblhblaaDoor
