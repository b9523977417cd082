/- Texts of this claim, one behind the other. -/
import Derived.Test.YtnnakllgfaaejaaGreatDoorPmE
import Derived.Maps.Own
import Derived.Maps.OwnSet
import Derived.Maps.OwnOps
import Derived.Maps.RangeWalk
import Derived.Maps.Ext
import Derived.Laws.BytesArg
import Derived.StillTailTactics
import Derived.Laws.IdiomRangeMap
import Derived.DeepKeys4
import Derived.ChangeKeysEq
import Derived.Test.YtnnakllgfaaejaaGreatDoorPmA
import Derived.Shelf.SlSortCmp.NoneTotal
import Derived.Test.YtnnakllgfaaejaaGreatDoorPmMk
import Derived.Deep.RegionLaw
import Derived.Deep.DrawnRows
import Derived.Deep.RegionHeld
import Derived.Test.YtnnakllgfaaejaaGreatDoorNamU
import Derived.Test.YtnnakllgfaaejaaGreatDoorPmR
import Derived.Shelf.Strings.Prefix
import Derived.Shelf.Small.Wraps
import Derived.BigQuiet
import Derived.Test.YtnnakllgfaaejaaGreatDoorPmNx
/-
  Permissions as the keys of a map of flags: what a key reads as, which permissions such a map has.
-/
namespace Go.Proofs.YtnnakllgfaaejaaGreatDoor
open Go.RowKit Go.Maps Go.WideMaps Go.ChangeMaps
set_option linter.unusedSimpArgs false
set_option linter.unusedVariables false

theorem zeroBl (w : World) : (zeroValue 4).run Tryz.prog w = .ok (.bool false) w := by kernel_rfl
theorem pl_bool (x : Bool) : plainElem (H := Unit) Tryz.prog 4 (.bool x) = some (.lit (.bool x), []) := plainElem_bool Tryz.underlying4 x
set_option maxRecDepth 100000 in
theorem pl_bool_inv {v : Value} {z : DataW Unit × List MemPlace} (h : plainElem Tryz.prog 4 v = some z) : ∃ x, v = .bool x ∧ z = (.lit (.bool x), []) := by
  unfold plainElem at h
  rw [Tryz.underlying4] at h
  cases v <;> simp at h
  exact ⟨_, rfl, h.symm⟩
/-- A bool's value by a number (the walk parts a '∀' over Bool). -/
def vB (c : Nat) : Value := .bool (decide (c = 1))
theorem pl_vB_inv {v : Value} {z : DataW Unit × List MemPlace} (h : plainElem Tryz.prog 4 v = some z) : ∃ c, v = vB c := by
  obtain ⟨x, rfl, _⟩ := pl_bool_inv h
  cases x with
  | false => exact ⟨0, rfl⟩
  | true => exact ⟨1, rfl⟩

/-- A look-up whose run is known, asked for or not (a guard that holds). -/
theorem wpList_lookup_run {P : Program} {w : World} {ops : Array Oper} {rest : List Oper} {o : Oper} {a : Act} {Q : Exit → Act → World → Prop} (hw : Region.wanted o (yielded ops a.tmps) = true) (m x : Operand) (t : TypeId)
    (ho : o.op = Op.lookup t m x false) (mv key : Value) (hm : a.eval m = mv) (hx : a.eval x = key) {v : Value} {w' : World} (hr : (Instr.lookup t mv key false).run P w = .ok v w') (h : wpList P ops Q rest (a.put o.dst v) w') : wpList P ops Q (o :: rest) a w := by
  refine wpList_step fun K hK => ?_
  rw [if_pos hw]
  unfold Oper.wp
  simp [execOp, ho, hm, hx, hr, Result.andThen]
  exact hK _ _ h

theorem laidOutQ : laidOutB Tryz.prog = true := by kernel_rfl
theorem lawQ : Keyed Tryz.prog 35 := Keyed.of_law (deep_law_laid laidOutQ (m := 3) (by omega) (of_decide_eq_true (by kernel_rfl)) (by kernel_rfl) (by kernel_rfl))
theorem structQ : ∃ fs, Tryz.prog.underlying 35 = some (.struct fs) := ⟨_, Tryz.underlying35⟩
theorem cellsQ : Tryz.prog.cellsOf 35 = 3 := by kernel_rfl
theorem cellsStr : Tryz.prog.cellsOf 9 = 1 := by kernel_rfl
theorem cellsBool : Tryz.prog.cellsOf 4 = 1 := by kernel_rfl
theorem keyTypeQ : Tryz.prog.keyType 35 = true := by kernel_rfl
/-- What a permission reads as. -/
def klQ (x : Per) : Lit := .string (keyBytes [.string x.a.data.toList, .string x.p.data.toList, .bool x.d])
set_option maxRecDepth 100000 in
theorem key_litsQ (n : Nat) (a p d : Value) (x y z : Option (List Lit)) (hx : Tryz.prog.keyLits (n + 1) 9 [a] = x) (hy : Tryz.prog.keyLits (n + 1) 9 [p] = y) (hz : Tryz.prog.keyLits (n + 1) 4 [d] = z) :
    Tryz.prog.keyLits (n + 2) 35 [a, p, d] = x.bind fun x => y.bind fun y => z.bind fun z => some (x ++ (y ++ z)) := by
  unfold Program.keyLits
  simp only [Tryz.underlying35]
  rw [if_pos ⟨by rw [cellsQ]; rfl, by decide +kernel⟩]
  simp [cellsStr, cellsBool, hx, hy, hz]
  cases x <;> cases y <;> cases z <;> simp
theorem litS (n : Nat) (s : ByteArray) (h : s.size ≤ maxLen) : Tryz.prog.keyLits (n + 1) 9 [.string s] = some [.string s.data.toList] := by
  unfold Program.keyLits
  simp [Tryz.underlying9, h]
theorem litB (n : Nat) (b : Bool) : Tryz.prog.keyLits (n + 1) 4 [.bool b] = some [.bool b] := by
  unfold Program.keyLits
  simp [Tryz.underlying4]
theorem types_two : ∃ n, Tryz.prog.types.size + 1 = n + 2 := ⟨Tryz.prog.types.size - 1, by have : 1 ≤ Tryz.prog.types.size := of_decide_eq_true (by kernel_rfl); omega⟩
set_option maxRecDepth 100000 in
theorem key_mkQ (x : Per) (ha : x.a.size ≤ maxLen) (hp : x.p.size ≤ maxLen) : keyOf Tryz.prog 35 (perV x) = some (klQ x) := by
  obtain ⟨fs, hu⟩ := structQ
  obtain ⟨n, hn⟩ := types_two
  unfold keyOf
  rw [hu]
  simp only
  rw [if_pos (by rw [keyTypeQ]; simp [perV, Value.formed, hu, cellsQ]), hn]
  have : (perV x).cells.toList = [.string x.a, .string x.p, .bool x.d] := rfl
  rw [this, key_litsQ n _ _ _ _ _ _ (litS _ _ ha) (litS _ _ hp) (litB _ _)]
  rfl
set_option maxRecDepth 100000 in
theorem key_invQ {v : Value} {kl : Lit} (h : keyOf Tryz.prog 35 v = some kl) : ∃ x : Per, v = perV x ∧ kl = klQ x ∧ x.a.size ≤ maxLen ∧ x.p.size ≤ maxLen := by
  obtain ⟨fs, hu⟩ := structQ
  obtain ⟨n, hn⟩ := types_two
  unfold keyOf at h
  rw [hu] at h
  simp only at h
  split at h
  · rename_i hf
    rw [Bool.and_eq_true] at hf
    have hf2 := hf.2
    cases v <;> simp only [Value.formed, hu, Bool.false_eq_true] at hf2
    rename_i cs
    rw [cellsQ] at hf2
    obtain ⟨cs⟩ := cs
    match cs, hf2, h with
    | [a, p, d], _, h =>
      have hc : (Value.agg ⟨[a, p, d]⟩).cells.toList = [a, p, d] := rfl
      rw [hn, hc, key_litsQ n a p d _ _ _ rfl rfl rfl] at h
      cases h1 : Tryz.prog.keyLits (n + 1) 9 [a] with
      | none => rw [h1] at h; simp at h
      | some la =>
        cases h2 : Tryz.prog.keyLits (n + 1) 9 [p] with
        | none => rw [h1, h2] at h; simp at h
        | some lp =>
          cases h3 : Tryz.prog.keyLits (n + 1) 4 [d] with
          | none => rw [h1, h2, h3] at h; simp at h
          | some ld =>
            obtain ⟨sa, ea, rfl⟩ := keyLits_string' Tryz.underlying9 h1
            obtain ⟨sp, ep, rfl⟩ := keyLits_string' Tryz.underlying9 h2
            obtain ⟨sd, ed, rfl⟩ := keyLits_bool' Tryz.underlying4 h3
            simp only [List.cons.injEq, and_true] at ea ep ed
            subst ea; subst ep; subst ed
            rw [h1, h2, h3] at h
            simp at h
            have e1 : sa.size ≤ maxLen := by
              unfold Program.keyLits at h1
              simp [Tryz.underlying9] at h1
              exact h1
            have e2 : sp.size ≤ maxLen := by
              unfold Program.keyLits at h2
              simp [Tryz.underlying9] at h2
              exact h2
            exact ⟨⟨sa, sp, sd⟩, rfl, h.symm, e1, e2⟩
  · cases h
theorem perV_inj {x y : Per} (h : perV x = perV y) : x = y := by
  cases x; cases y
  unfold perV at h
  simp at h
  simp [h]
def smallQ (x : Per) : Prop := x.a.size ≤ maxLen ∧ x.p.size ≤ maxLen
theorem klQ_inj {x y : Per} (hx : smallQ x) (hy : smallQ y) (h : klQ x = klQ y) : x = y :=
  perV_inj (lawQ.inj (key_mkQ x hx.1 hx.2) (by rw [key_mkQ y hy.1 hy.2, h]))

abbrev OwnMQ (w : World) (m n : Nat) (D : DataW Unit) : Prop := w.ownsMap Tryz.prog 35 (plainElem Tryz.prog 4) m n D
theorem ownMQ_kept {S : Nat → Prop} {a b : World} {m n : Nat} {D : DataW Unit} (h : OwnMQ a m n D) (hk : Kept S a b) (hn : ¬ S m) : OwnMQ b m n D := by
  have hlt := h.lt
  obtain ⟨es, clock, h1, h2⟩ := h
  exact ⟨es, clock, (hk.block m hlt hn).trans h1, h2⟩
/-- Which permissions a map has. -/
def MapQ (D : DataW Unit) (M : Per → Bool) : Prop :=
  ∀ x : Per, smallQ x → Maps.has D (klQ x) = M x ∧ D.atKey (klQ x) (.lit (.bool false)) = .lit (.bool (M x))
theorem MapQ.nil : MapQ (.map []) (fun _ => false) := fun s _ => ⟨by simp [Maps.has], rfl⟩
theorem MapQ.put {D : DataW Unit} {M : Per → Bool} (y : Per) (hy : smallQ y) (h : MapQ D M) (hD : IsMap D) : MapQ (D.put (klQ y) (.lit (.bool true))) (fun x => decide (x = y) || M x) := fun x hx => by
  by_cases e : x = y
  · subst e
    exact ⟨by rw [has_put_same (k := klQ x) hD trivial]; simp, by rw [atKey_put_same (k := klQ x) hD trivial]; simp⟩
  · have hne : klQ x ≠ klQ y := fun e2 => e (klQ_inj hx hy e2)
    rw [has_put_other hne, atKey_put_other hne]
    simp [e]
    exact h x hx
end Go.Proofs.YtnnakllgfaaejaaGreatDoor
/-
  Permissions: the set of a list (a map), and what it is asked.
-/
namespace Go.Proofs.YtnnakllgfaaejaaGreatDoor
open Go.RowKit Go.Maps Go.WideMaps Go.ChangeMaps
set_option linter.unusedSimpArgs false
set_option linter.unusedVariables false

set_option maxRecDepth 100000 in
theorem mk_hintQ (W : World) (c : Int) : (Instr.makeMap 52 (some (.int .i64 c))).run Tryz.prog W = .ok (.map (some W.heap.size)) (W.alloc (.map #[] 0)) := by
  unfold Instr.makeMap
  simp only [Sem.run_bind, run_underlying Tryz.underlying52, Result.andThen_ok]
  rfl
set_option maxRecDepth 100000 in
theorem map_lookQ {w : World} {m n : Nat} {D : DataW Unit} {M : Per → Bool} (h : OwnMQ w m n D) (hM : MapQ D M) (x : Per) (hx : smallQ x) :
    (Instr.lookup 52 (.map (some m)) (perV x) false).run Tryz.prog w = .ok (.bool (M x)) w := by
  obtain ⟨v, ps, hrun, hv⟩ := h.lookup lawQ Tryz.underlying52 (zeroBl w) (pl_bool false) (key_mkQ x hx.1 hx.2)
  rw [(hM x hx).2] at hv
  obtain ⟨y, rfl, hy⟩ := pl_bool_inv hv
  injection hy with h1 h2
  injection h1 with h1
  injection h1 with h1
  rw [hrun, ← h1]
/-- Permissions of a size that can be walked. -/
def bdQ (l : List Per) : Prop := ∀ x ∈ l, x.a.size ≤ 1000000 ∧ x.p.size ≤ 100000
theorem bdQ_small {l : List Per} (h : bdQ l) {x : Per} (hx : x ∈ l) : smallQ x := by
  have := h x hx
  unfold smallQ maxLen
  omega
theorem take_one (l : List Per) (k : Nat) (h : k < l.length) : l.take (k + 1) = l.take k ++ [l.getD k per0] := by
  rw [List.take_add_one, List.getD_eq_getElem?_getD, List.getElem?_eq_getElem h]
  rfl
theorem getD_mem (l : List Per) (k : Nat) (h : k < l.length) : l.getD k per0 ∈ l := by
  rw [List.getD_eq_getElem?_getD, List.getElem?_eq_getElem h]
  exact List.getElem_mem h

/-- The map after k rounds. -/
structure SetInv (w wr : World) (m k : Nat) (l : List Per) : Prop where
  map : ∃ n D, OwnMQ wr m n D ∧ MapQ D (memP (l.take k)) ∧ IsMap D ∧ n ≤ k
  kept : Kept (fun _ => False) w wr
theorem memP_yes {l : List Per} {k : Nat} (hk : k < l.length) (h : okP (l.getD k per0) = true) : memP (l.take (k + 1)) = fun x => decide (x = l.getD k per0) || memP (l.take k) x := by
  funext x
  rw [Bool.eq_iff_iff, Bool.or_eq_true, memP_iff, memP_iff, take_one l k hk, List.mem_append, List.mem_singleton, decide_eq_true_eq]
  constructor
  · rintro ⟨a | a, b⟩
    · exact Or.inr ⟨a, b⟩
    · exact Or.inl a
  · rintro (a | ⟨a, b⟩)
    · exact ⟨Or.inr a, by rw [a]; exact h⟩
    · exact ⟨Or.inl a, b⟩
theorem memP_no {l : List Per} {k : Nat} (hk : k < l.length) (h : okP (l.getD k per0) = false) : memP (l.take (k + 1)) = memP (l.take k) := by
  funext x
  rw [Bool.eq_iff_iff, memP_iff, memP_iff, take_one l k hk, List.mem_append, List.mem_singleton]
  constructor
  · rintro ⟨a | a, b⟩
    · exact ⟨a, b⟩
    · rw [a, h] at b; cases b
  · rintro ⟨a, b⟩; exact ⟨Or.inl a, b⟩

set_option maxRecDepth 100000 in
set_option maxHeartbeats 3200000 in
theorem setOf_any (w : World) (v : Value) (l : List Per) (h : Pers w v l) (hb : bdQ l) (hl : l.length ≤ 100000) :
    Calls Tryz.prog 24 #[v] w fun e w' => ∃ m n D, e = .returned (.map (some m)) ∧ OwnMQ w' m n D ∧ MapQ D (memP l) ∧ n ≤ l.length ∧ w.heap.size ≤ m ∧ Kept (fun _ => False) w w' := by
  obtain ⟨a, c, rfl, h1, h2⟩ := h.form
  have HV := Lib.hid h; have HBD := Lib.hid hb
  obtain ⟨N, hN⟩ : ∃ N, N = l.length := ⟨_, rfl⟩
  rw [← hN] at HV hl h1 ⊢
  have HN := Lib.hid hN
  unfold maxLen at h2
  have hmm := mk_hintQ
  have HI0 : Hid (SetInv w (w.alloc (.map #[] 0)) w.heap.size 0 l) := Lib.hid ⟨⟨0, _, World.ownsMap_made (H := Unit) w Tryz.prog 35 (plainElem Tryz.prog 4), (by
    have : memP (l.take 0) = fun _ => false := by funext x; unfold memP; simp
    rw [this]; exact MapQ.nil), ⟨[], rfl⟩, Nat.le_refl _⟩, Kept.alloc _ _ _⟩
  clear h hb hN
  go_enter Tryz.func24, Tryz.ntmps24
  go_wp2_with fail
  go_loopw [5, 11] (fun _ iv wr => ∃ k : Nat, k ≤ N ∧ iv = .int .i64 (k : Int) ∧ Hid (SetInv w wr w.heap.size k l)) (fun _ iv _ => N - (intOf iv).toNat)
  case atStart => exact ⟨0, Nat.zero_le _, rfl, HI0⟩
  case round =>
    obtain ⟨k, hk, rfl, hI⟩ := hrel
    clear HI0
    by_cases hlt : k < N
    · have l1 : (k : Int) < (N : Int) := by omega
      have l0 : (0 : Int) ≤ (k : Int) := by omega
      have hkl : k < l.length := by have := HN.out; omega
      obtain ⟨g, off, rfl, hg, hc⟩ := (HV.out.kept hI.out.kept (fun _ _ h => h)).at (k := k) hkl
      have hbx := HBD.out _ (getD_mem l k hkl)
      have hyes := fun h => memP_yes (l := l) hkl h
      have hno := fun h => memP_no (l := l) hkl h
      have hsm : smallQ (l.getD k per0) := bdQ_small HBD.out (getD_mem l k hkl)
      generalize hx : l.getD k per0 = x at hc hbx hyes hno hsm
      have HC := Lib.hid (fun W => pok_any x (by omega) W)
      obtain ⟨xa, xp, xd⟩ := x
      unfold perV at HC
      obtain ⟨c0, c1, c2⟩ := hc
      simp only at c0 c1 c2
      have HBX := Lib.hid (Bx.new wr xa xp xd 35)
      have HK1 := Lib.hid (hI.out.kept.then (Kept.alloc (fun _ => False) wr (.cells #[.string xa, .string xp, .bool xd] 35)))
      have hkal := Kept.alloc (fun _ => False) wr (.cells #[.string xa, .string xp, .bool xd] 35)
      have HM := Lib.hid hI.out.map
      have HYES := Lib.hid hyes; have HNO := Lib.hid hno; have HSM := Lib.hid hsm; have HX := Lib.hid hx
      have HKAL := Lib.hid hkal
      obtain ⟨b, hb⟩ : ∃ b, b = okP ⟨xa, xp, xd⟩ := ⟨_, rfl⟩
      rw [← hb] at HC
      have HB := Lib.hid hb
      clear hyes hno hsm hx hbx hkal hb hg
      go_wp2_with fail
      refine (HC.out _).mono ?_
      clear c0 c1 c2
      generalize wr.alloc (.cells #[.string xa, .string xp, .bool xd] 35) = W1 at *
      generalize wr.heap.size = Q at *
      rintro e w2 ⟨rfl, k2⟩
      obtain ⟨c0, c1, c2⟩ := HBX.out.stay k2
      have HK2 := Lib.hid (HK1.out.then k2)
      have HKAL2 := Lib.hid (HKAL.out.then k2)
      clear k2 HC HK1 HBX HKAL
      cases b with
      | false =>
        have hI2 : Hid (SetInv w w2 w.heap.size (k + 1) l) := by
          obtain ⟨n, D, m1, m2, m3, m4⟩ := HM.out
          exact ⟨⟨n, D, ownMQ_kept m1 HKAL2.out (fun h => h), by rw [HNO.out HB.out.symm]; exact m2, m3, by omega⟩, HK2.out⟩
        go_wp2_with fail
        go_roundw
        case rel => exact ⟨k + 1, by omega, by go_num, hI2⟩
        case measure => simp [intOf]; omega
      | true =>
        obtain ⟨n, D, m1, m2, m3, m4⟩ := HM.out
        have m1b := ownMQ_kept m1 HKAL2.out (fun h => h)
        have hput := MapQ.put ⟨xa, xp, xd⟩ HSM.out m2 m3
        rw [← HYES.out HB.out.symm] at hput
        have HPUT := Lib.hid hput; have HM3 := Lib.hid m3
        have hkey := key_mkQ ⟨xa, xp, xd⟩ HSM.out.1 HSM.out.2
        clear m1 m2 m3 hput HM
        go_wp2_with (first
          | (at_mapUpdate; refine wpList_mapUpdate_own _ rfl _ _ _ 52 rfl 35 4 lawQ Tryz.underlying52 _ w.heap.size _ _ rfl m1b (by unfold maxLen; omega) _ _ _ rfl rfl hkey _ [] (pl_bool true) ?_; intro w3 hown3 hg3; go_frame)
          | fail)
        have hI2 : Hid (SetInv w w3 w.heap.size (k + 1) l) :=
          ⟨⟨_, _, hown3, HPUT.out, HM3.out.put _ _, by omega⟩, HK2.out.trans (Kept.ofGrown (S := fun k => k = w.heap.size) hg3 (fun k e => (Option.some.inj e).symm)) (fun _ _ h => h) (fun i hi e => by omega)⟩
        clear hown3 hg3
        go_roundw
        case rel => exact ⟨k + 1, by omega, by go_num, hI2⟩
        case measure => simp [intOf]; omega
    · obtain rfl : k = N := by omega
      go_wp2_with fail
      go_ret
      obtain ⟨n, D, m1, m2, m3, m4⟩ := hI.out.map
      rw [HN.out, List.take_length] at m2
      exact ⟨_, n, D, rfl, m1, m2, m4, Nat.le_refl _, hI.out.kept⟩

set_option maxRecDepth 100000 in
set_option maxHeartbeats 3200000 in
theorem exceeds_any (w : World) (m n : Nat) (D : DataW Unit) (M : Per → Bool) (x : Per) (h : OwnMQ w m n D) (hM : MapQ D M) (hxa : x.a.size ≤ 1000000) (hxp : x.p.size ≤ 100000) :
    Calls Tryz.prog 25 #[.map (some m), perV x] w fun e w' => e = .returned (.bool (askP M x)) ∧ Kept (fun _ => False) w w' := by
  have HA := Lib.hid (fun W => panc_any x.p hxp W)
  have HLK : Hid (∀ W, Kept (fun _ => False) w W → ∀ y : ByteArray, y.size ≤ 1000000 → (Instr.lookup 52 (.map (some m)) (.agg #[.string x.a, .string y, .bool true]) false).run Tryz.prog W = .ok (.bool (M ⟨x.a, y, true⟩)) W) :=
    Lib.hid fun W hk y hy => map_lookQ (ownMQ_kept h hk (fun h => h)) hM ⟨x.a, y, true⟩ ⟨by show x.a.size ≤ maxLen; unfold maxLen; omega, by show y.size ≤ maxLen; unfold maxLen; omega⟩
  have hsmall : ∀ u ∈ ancS x.p, u.size ≤ 1000000 := by
    intro u hu
    unfold ancS at hu
    cases hn : namesS x.p with
    | none => rw [hn] at hu; simp at hu
    | some xs =>
      have : u ∈ ancS x.p := by unfold ancS; exact hu
      obtain ⟨k, _, rfl⟩ := (mem_anc hn).1 this
      have := path_size (nm_take hn k)
      omega
  have HS := Lib.hid hsmall
  obtain ⟨V, hV⟩ : ∃ V, V = askP M x := ⟨_, rfl⟩
  rw [← hV]
  unfold askP at hV
  obtain ⟨a, p, d⟩ := x
  simp only at HA HLK HS hV
  obtain ⟨U, hU⟩ : ∃ U, U = ancS p := ⟨_, rfl⟩
  rw [← hU] at HA HS hV
  obtain ⟨N, hN⟩ : ∃ N, N = U.length := ⟨_, rfl⟩
  have HV := Lib.hid hV; have HN := Lib.hid hN
  have hlk0 := HLK.out
  have HBX := Lib.hid (Bx.new w a p d 35)
  have HK1 := Lib.hid (Kept.alloc (fun _ => False) w (.cells #[.string a, .string p, .bool d] 35))
  have hl1 := HLK.out _ HK1.out p (by simp only at hxp; omega)
  clear hlk0 hsmall hV hU hN hxa hxp h hM
  unfold perV
  simp only
  generalize hmp : M ⟨a, p, true⟩ = MP at hl1
  have HMP := Lib.hid hmp
  clear hmp
  have HL1 := Lib.hid hl1
  clear hl1
  cases d with
  | false =>
    cases MP with
    | true =>
      have hv : V = true := by rw [HV.out, HMP.out]; rfl
      subst hv
      go_enter Tryz.func25, Tryz.ntmps25
      go_wp2_with (first
        | (at_lookup; refine wpList_lookup_run (by rfl) _ _ _ rfl _ _ rfl rfl HL1.out ?_)
        | fail)
      go_ret
      exact ⟨rfl, HK1.out⟩
    | false =>
      have hv : V = U.any fun u => M ⟨a, u, true⟩ := by rw [HV.out, HMP.out]; rfl
      have HV2 := Lib.hid hv
      clear hv HV HMP
      go_enter Tryz.func25, Tryz.ntmps25
      go_wp2_with (first
        | (at_lookup; refine wpList_lookup_run (by rfl) _ _ _ rfl _ _ rfl rfl HL1.out ?_)
        | fail)
      refine (HA.out _).mono ?_
      generalize w.alloc (.cells #[.string a, .string p, .bool false] 35) = W1 at *
      generalize w.heap.size = Q at *
      rintro e w2 ⟨v, rfl, hst, k2⟩
      obtain ⟨va, vc, rfl, hvc, hvm⟩ := hst.form
      rw [← HN.out] at hst hvc ⊢
      have HST := Lib.hid hst
      have HBX2 := Lib.hid (HBX.out.stay k2)
      have HK2 := Lib.hid (HK1.out.then k2)
      have HST : Hid (Strs w2 (.slice va N vc) U) := HST
      unfold maxLen at hvm
      clear k2 HA HK1 HBX HL1 hst
      go_wp2_with fail
      go_loopw [6, 23] (fun _ iv wr => ∃ k : Nat, k ≤ N ∧ iv = .int .i64 (k : Int) ∧ Hid (∀ j, j < k → M ⟨a, U.getD j ⟨#[]⟩, true⟩ = false) ∧ wr = w2) (fun _ iv _ => N - (intOf iv).toNat)
      case atStart => exact ⟨0, Nat.zero_le _, rfl, Lib.hid (fun j hj => absurd hj (by omega)), rfl⟩
      case round =>
        obtain ⟨k, hk, rfl, hlo, rfl⟩ := hrel
        by_cases hlt : k < N
        · have l1 : (k : Int) < (N : Int) := by omega
          have l0 : (0 : Int) ≤ (k : Int) := by omega
          have hkl : k < U.length := by have := HN.out; omega
          obtain ⟨g, off, rfl, hg, hc⟩ := HST.out.at (k := k) hkl
          obtain ⟨u, hu⟩ : ∃ u, u = U.getD k ⟨#[]⟩ := ⟨_, rfl⟩
          rw [← hu] at hc
          have hum : u ∈ U := by rw [hu]; simp [List.getD, hkl]
          have hlk := HLK.out _ HK2.out u (HS.out u hum)
          obtain ⟨c0, c1, c2⟩ := HBX2.out
          generalize hmu : M ⟨a, u, true⟩ = mu at hlk
          have HU := Lib.hid hu; have HMU := Lib.hid hmu; have HR := Lib.hid hlk; have HUM := Lib.hid hum
          clear hu hmu hlk hum
          cases mu with
          | true =>
            have hv : V = true := by rw [HV2.out]; exact List.any_eq_true.2 ⟨u, HUM.out, HMU.out⟩
            subst hv
            clear HV2
            go_wp2_with (first
              | (at_lookup; refine wpList_lookup_run (by rfl) _ _ _ rfl _ _ rfl rfl HR.out ?_)
              | fail)
            go_ret
            exact ⟨rfl, HK2.out⟩
          | false =>
            have hI : Hid (∀ j, j < k + 1 → M ⟨a, U.getD j ⟨#[]⟩, true⟩ = false) := Lib.hid fun j hj => by
              rcases Nat.lt_or_ge j k with h | h
              · exact hlo.out j h
              · obtain rfl : j = k := by omega
                rw [← HU.out]; exact HMU.out
            go_wp2_with (first
              | (at_lookup; refine wpList_lookup_run (by rfl) _ _ _ rfl _ _ rfl rfl HR.out ?_)
              | fail)
            go_roundw
            case rel => exact ⟨k + 1, by omega, by go_num, hI, by first | rfl | trivial⟩
            case measure => simp [intOf]; omega
        · obtain rfl : k = N := by omega
          have hv : V = false := by
            rw [HV2.out, List.any_eq_false]
            intro u hu
            obtain ⟨j, hj, rfl⟩ := List.getElem_of_mem hu
            have := hlo.out j (by have := HN.out; omega)
            rw [show U.getD j ⟨#[]⟩ = U[j] by simp [List.getD, hj]] at this
            rw [this]; simp
          subst hv
          clear HV2
          go_wp2_with fail
          go_ret
          exact ⟨rfl, HK2.out⟩
  | true =>
    have hv : V = U.any fun u => M ⟨a, u, true⟩ := by rw [HV.out]; rfl
    have HV2 := Lib.hid hv
    clear hv HV HMP
    go_enter Tryz.func25, Tryz.ntmps25
    go_wp2_with fail
    refine (HA.out _).mono ?_
    generalize w.alloc (.cells #[.string a, .string p, .bool true] 35) = W1 at *
    generalize w.heap.size = Q at *
    rintro e w2 ⟨v, rfl, hst, k2⟩
    obtain ⟨va, vc, rfl, hvc, hvm⟩ := hst.form
    rw [← HN.out] at hst hvc ⊢
    have HST := Lib.hid hst
    have HBX2 := Lib.hid (HBX.out.stay k2)
    have HK2 := Lib.hid (HK1.out.then k2)
    have HST : Hid (Strs w2 (.slice va N vc) U) := HST
    unfold maxLen at hvm
    clear k2 HA HK1 HBX HL1 hst
    go_wp2_with fail
    go_loopw [6, 23] (fun _ iv wr => ∃ k : Nat, k ≤ N ∧ iv = .int .i64 (k : Int) ∧ Hid (∀ j, j < k → M ⟨a, U.getD j ⟨#[]⟩, true⟩ = false) ∧ wr = w2) (fun _ iv _ => N - (intOf iv).toNat)
    case atStart => exact ⟨0, Nat.zero_le _, rfl, Lib.hid (fun j hj => absurd hj (by omega)), rfl⟩
    case round =>
      obtain ⟨k, hk, rfl, hlo, rfl⟩ := hrel
      by_cases hlt : k < N
      · have l1 : (k : Int) < (N : Int) := by omega
        have l0 : (0 : Int) ≤ (k : Int) := by omega
        have hkl : k < U.length := by have := HN.out; omega
        obtain ⟨g, off, rfl, hg, hc⟩ := HST.out.at (k := k) hkl
        obtain ⟨u, hu⟩ : ∃ u, u = U.getD k ⟨#[]⟩ := ⟨_, rfl⟩
        rw [← hu] at hc
        have hum : u ∈ U := by rw [hu]; simp [List.getD, hkl]
        have hlk := HLK.out _ HK2.out u (HS.out u hum)
        obtain ⟨c0, c1, c2⟩ := HBX2.out
        generalize hmu : M ⟨a, u, true⟩ = mu at hlk
        have HU := Lib.hid hu; have HMU := Lib.hid hmu; have HR := Lib.hid hlk; have HUM := Lib.hid hum
        clear hu hmu hlk hum
        cases mu with
        | true =>
          have hv : V = true := by rw [HV2.out]; exact List.any_eq_true.2 ⟨u, HUM.out, HMU.out⟩
          subst hv
          clear HV2
          go_wp2_with (first
            | (at_lookup; refine wpList_lookup_run (by rfl) _ _ _ rfl _ _ rfl rfl HR.out ?_)
            | fail)
          go_ret
          exact ⟨rfl, HK2.out⟩
        | false =>
          have hI : Hid (∀ j, j < k + 1 → M ⟨a, U.getD j ⟨#[]⟩, true⟩ = false) := Lib.hid fun j hj => by
            rcases Nat.lt_or_ge j k with h | h
            · exact hlo.out j h
            · obtain rfl : j = k := by omega
              rw [← HU.out]; exact HMU.out
          go_wp2_with (first
            | (at_lookup; refine wpList_lookup_run (by rfl) _ _ _ rfl _ _ rfl rfl HR.out ?_)
            | fail)
          go_roundw
          case rel => exact ⟨k + 1, by omega, by go_num, hI, by first | rfl | trivial⟩
          case measure => simp [intOf]; omega
      · obtain rfl : k = N := by omega
        have hv : V = false := by
          rw [HV2.out, List.any_eq_false]
          intro u hu
          obtain ⟨j, hj, rfl⟩ := List.getElem_of_mem hu
          have := hlo.out j (by have := HN.out; omega)
          rw [show U.getD j ⟨#[]⟩ = U[j] by simp [List.getD, hj]] at this
          rw [this]; simp
        subst hv
        clear HV2
        go_wp2_with fail
        go_ret
        exact ⟨rfl, HK2.out⟩
end Go.Proofs.YtnnakllgfaaejaaGreatDoor
/-
  slices.SortFunc of permissions by permission.Compare, laid at this seat's program.
-/
namespace Go.Proofs.YtnnakllgfaaejaaGreatDoor
open Go.RowKit Go.Shelf Go.Sort
set_option linter.unusedSimpArgs false
set_option linter.unusedVariables false
set_option maxRecDepth 100000

def laysSortQ_ren : Go.Shelf.Ren := ⟨fun | 6 => 26 | 14 => 41 | 15 => 42 | 20 => 55 | 21 => 56 | 22 => 57 | 23 => 58 | 24 => 59 | 25 => 60 | 26 => 61 | 27 => 62 | 28 => 63 | 29 => 64 | 46 => 78 | 47 => 79 | 48 => 80 | 49 => 81 | 50 => 82 | 57 => 94 | n => n, fun | 0 => 0 | 3 => 3 | 4 => 4 | 5 => 5 | 9 => 9 | 22 => 27 | 24 => 35 | 25 => 56 | 39 => 69 | 45 => 83 | 46 => 84 | 50 => 88 | 53 => 91 | 55 => 93 | 66 => 98 | 70 => 102 | 76 => 110 | 77 => 111 | n => n, fun | n => n⟩
theorem laysSortQ : Go.Proofs.SlLaysF0.n6 Tryz.prog laysSortQ_ren := {
  mixed := by kernel_rfl
  f6 := ⟨ "slices.SortFunc[[]arbac/permission.Permission,arbac/permission.Permission]", by kernel_rfl, Tryz.func26.trans (congrArg some (by kernel_rfl))⟩
  f14 := ⟨ "slices.pdqsortCmpFunc[arbac/permission.Permission]", by kernel_rfl, Tryz.func41.trans (congrArg some (by kernel_rfl))⟩
  f15 := Tryz.func42.trans (congrArg some (by kernel_rfl))
  f20 := ⟨ "slices.insertionSortCmpFunc[arbac/permission.Permission]", by kernel_rfl, Tryz.func55.trans (congrArg some (by kernel_rfl))⟩
  f21 := ⟨ "slices.heapSortCmpFunc[arbac/permission.Permission]", by kernel_rfl, Tryz.func56.trans (congrArg some (by kernel_rfl))⟩
  f22 := ⟨ "slices.breakPatternsCmpFunc[arbac/permission.Permission]", by kernel_rfl, Tryz.func57.trans (congrArg some (by kernel_rfl))⟩
  f23 := ⟨ "slices.choosePivotCmpFunc[arbac/permission.Permission]", by kernel_rfl, Tryz.func58.trans (congrArg some (by kernel_rfl))⟩
  f24 := ⟨ "slices.reverseRangeCmpFunc[arbac/permission.Permission]", by kernel_rfl, Tryz.func59.trans (congrArg some (by kernel_rfl))⟩
  f25 := ⟨ "slices.partialInsertionSortCmpFunc[arbac/permission.Permission]", by kernel_rfl, Tryz.func60.trans (congrArg some (by kernel_rfl))⟩
  f26 := ⟨ "slices.partitionEqualCmpFunc[arbac/permission.Permission]", by kernel_rfl, Tryz.func61.trans (congrArg some (by kernel_rfl))⟩
  f27 := ⟨ "slices.partitionCmpFunc[arbac/permission.Permission]", by kernel_rfl, Tryz.func62.trans (congrArg some (by kernel_rfl))⟩
  f28 := Tryz.func63.trans (congrArg some (by kernel_rfl))
  f29 := Tryz.func64.trans (congrArg some (by kernel_rfl))
  f46 := ⟨ "slices.siftDownCmpFunc[arbac/permission.Permission]", by kernel_rfl, Tryz.func78.trans (congrArg some (by kernel_rfl))⟩
  f47 := Tryz.func79.trans (congrArg some (by kernel_rfl))
  f48 := Tryz.func80.trans (congrArg some (by kernel_rfl))
  f49 := ⟨ "slices.medianAdjacentCmpFunc[arbac/permission.Permission]", by kernel_rfl, Tryz.func81.trans (congrArg some (by kernel_rfl))⟩
  f50 := ⟨ "slices.medianCmpFunc[arbac/permission.Permission]", by kernel_rfl, Tryz.func82.trans (congrArg some (by kernel_rfl))⟩
  f57 := ⟨ "slices.order2CmpFunc[arbac/permission.Permission]", by kernel_rfl, Tryz.func94.trans (congrArg some (by kernel_rfl))⟩
  t0 := Tryz.underlying0
  a0 := Tryz.isAgg0
  z0 := Tryz.sizeOf0
  v0 := Tryz.zeroValue0
  t3 := Tryz.underlying3
  a3 := Tryz.isAgg3
  z3 := Tryz.sizeOf3
  v3 := Tryz.zeroValue3
  t4 := Tryz.underlying4
  a4 := Tryz.isAgg4
  z4 := Tryz.sizeOf4
  v4 := Tryz.zeroValue4
  t5 := Tryz.underlying5
  a5 := Tryz.isAgg5
  z5 := Tryz.sizeOf5
  v5 := Tryz.zeroValue5
  t9 := Tryz.underlying9
  a9 := Tryz.isAgg9
  z9 := Tryz.sizeOf9
  v9 := Tryz.zeroValue9
  t22 := Tryz.underlying27
  a22 := Tryz.isAgg27
  z22 := Tryz.sizeOf27
  v22 := Tryz.zeroValue27
  t25 := Tryz.underlying56
  a25 := Tryz.isAgg56
  z25 := Tryz.sizeOf56
  v25 := Tryz.zeroValue56
  t39 := Tryz.underlying69
  a39 := Tryz.isAgg69
  z39 := Tryz.sizeOf69
  v39 := Tryz.zeroValue69
  t45 := Tryz.underlying83
  a45 := Tryz.isAgg83
  z45 := Tryz.sizeOf83
  v45 := Tryz.zeroValue83
  t46 := Tryz.underlying84
  a46 := Tryz.isAgg84
  z46 := Tryz.sizeOf84
  v46 := Tryz.zeroValue84
  t50 := Tryz.underlying88
  a50 := Tryz.isAgg88
  z50 := Tryz.sizeOf88
  v50 := Tryz.zeroValue88
  t53 := Tryz.underlying91
  a53 := Tryz.isAgg91
  z53 := Tryz.sizeOf91
  v53 := Tryz.zeroValue91
  t55 := Tryz.underlying93
  a55 := Tryz.isAgg93
  z55 := Tryz.sizeOf93
  v55 := Tryz.zeroValue93
  t66 := Tryz.underlying98
  a66 := Tryz.isAgg98
  z66 := Tryz.sizeOf98
  v66 := Tryz.zeroValue98
  t70 := Tryz.underlying102
  a70 := Tryz.isAgg102
  z70 := Tryz.sizeOf102
  v70 := Tryz.zeroValue102
  t76 := Tryz.underlying110
  a76 := Tryz.isAgg110
  z76 := Tryz.sizeOf110
  v76 := Tryz.zeroValue110
  t77 := Tryz.underlying111
  a77 := Tryz.isAgg111
  z77 := Tryz.sizeOf111
  v77 := Tryz.zeroValue111 }

/-- The valid permissions. -/
abbrev PerT : Type := { x : Per // okP x = true }
theorem okP_some : okP ⟨mkS [97], mkS [47], false⟩ = true := by decide +kernel
instance : Inhabited PerT := ⟨⟨_, okP_some⟩⟩
def encQ (x : PerT) : List Value := perC x.val
def cfQ (x y : PerT) : Int := cmpP x.val y.val
theorem ltQ (x y : PerT) : ltOf cfQ x y = true ↔ cmpP x.val y.val < 0 := by unfold ltOf cfQ; rw [decide_eq_true_iff]
theorem ltQ_no (x y : PerT) : ltOf cfQ x y = false ↔ ¬ cmpP x.val y.val < 0 := by unfold ltOf cfQ; rw [decide_eq_false_iff_not]
theorem totQ (x y : PerT) (h1 : ltOf cfQ x y = false) (h2 : ltOf cfQ y x = false) : x = y := by
  rw [ltQ_no] at h1 h2
  have h3 := cmpP_swap x.val y.val
  exact Subtype.ext ((cmpP_zero _ _).1 (by omega))
theorem swoQ : SWO (ltOf cfQ) where
  irrefl x := by rw [ltQ_no, (cmpP_zero _ _).2 rfl]; omega
  trans x y z h1 h2 := by rw [ltQ] at *; exact cmpP_trans x.property y.property z.property h1 h2
  ntrans x y z h1 h2 := by
    rw [ltQ_no] at *
    intro h3
    have a1 := cmpP_swap x.val y.val
    have a2 := cmpP_swap y.val z.val
    by_cases e : cmpP x.val y.val = 0
    · have := (cmpP_zero _ _).1 e
      rw [this] at h3; exact h2 h3
    · by_cases e2 : cmpP y.val z.val = 0
      · have := (cmpP_zero _ _).1 e2
        rw [this] at h1; exact h1 h3
      · have := cmpP_trans z.property y.property x.property (by omega) (by omega)
        have a3 := cmpP_swap x.val z.val
        omega
theorem okP_small {x : Per} (h : okP x = true) : x.a.size ≤ 12 ∧ x.p.size ≤ 10000 := by
  obtain ⟨l, hl⟩ := Option.isSome_iff_exists.1 (okP_path h)
  refine ⟨?_, path_size hl⟩
  have h2 := okP_name h
  unfold validS at h2
  simp only [Bool.and_eq_true, decide_eq_true_eq] at h2
  exact h2.1.1.2
theorem cmpLaysQ (blk off size : Nat) (w : World) : CmpLays Tryz.prog 27 #[] encQ 3 cfQ blk off size w := fun m os dk hs x y =>
  (pcmp_any x.val y.val (by have := okP_small x.property; omega) (by have := okP_small y.property; omega) _).mono fun e w' ⟨h1, os', h2⟩ => ⟨h1, 0, os', h2⟩

theorem flat_getQ (L : List PerT) (t : Nat) (h : t < L.length * 3) : (flatQ (L.map (·.val)))[t]? = some ((flatK encQ 3 L.toArray)[t]!) := by
  have hi : t / 3 < L.length := by omega
  obtain ⟨a0, a1, a2⟩ := flatQ_at (L.map (·.val)) (t / 3) (by rw [List.length_map]; exact hi)
  rw [get_flatK encQ 3 L.toArray t (by simpa using h)]
  have e1 : L.toArray[t / 3]! = L[t / 3] := by simp [hi]
  have e2 : (L.map (·.val)).getD (t / 3) per0 = (L[t / 3]).val := by simp [List.getD, hi]
  rw [e2] at a0 a1 a2
  rw [e1]
  have hr : t % 3 = 0 ∨ t % 3 = 1 ∨ t % 3 = 2 := by omega
  rcases hr with e | e | e
  · rw [show t / 3 * 3 = t by omega] at a0
    rw [a0, e]; rfl
  · rw [show t / 3 * 3 + 1 = t by omega] at a1
    rw [a1, e]; rfl
  · rw [show t / 3 * 3 + 2 = t by omega] at a2
    rw [a2, e]; rfl
theorem holds_persQ {w : World} {g c : Nat} {L : List PerT} (h : HoldsK encQ 3 w g 0 L.toArray) (hg : g < w.heap.size) (hc : L.length ≤ c) (hm : c ≤ maxLen) : Pers w (.slice (some ⟨g, 0, none⟩) L.length c) (L.map (·.val)) := by
  have hl : (L.map (·.val)).length = L.length := List.length_map _
  have hcell : ∀ t, t < L.length * 3 → w.cell? ⟨g, t, none⟩ = (flatQ (L.map (·.val)))[t]? := fun t ht => by
    rw [flat_getQ L t ht]
    have := (h t (by rw [size_flatK]; simpa using ht)).1
    rw [Nat.zero_add] at this
    exact this
  refine Or.inr ⟨g, 0, c, by rw [hl], by rw [hl]; exact hc, hm, hg, fun i hi => ?_⟩
  obtain ⟨a0, a1, a2⟩ := flatQ_at (L.map (·.val)) i hi
  rw [hl] at hi
  rw [Nat.zero_add]
  exact ⟨(hcell _ (by omega)).trans a0, (hcell _ (by omega)).trans a1, (hcell _ (by omega)).trans a2⟩

/-- Permissions that are valid, with the reason. -/
def withQ (l : List Per) (h : ∀ x ∈ l, okP x = true) : List PerT := l.pmap (fun x hx => ⟨x, hx⟩) h
theorem withQ_val (l : List Per) (h : ∀ x ∈ l, okP x = true) : (withQ l h).map (·.val) = l := by
  unfold withQ
  rw [List.map_pmap]
  simp
theorem sortQ_sorted (l : List PerT) (hn : (l.map (·.val)).Nodup) : SortQ ((l.mergeSort fun x y => !(ltOf cfQ) y x).map (·.val)) := by
  refine ⟨?_, fun x hx => ?_⟩
  · have h1 := List.pairwise_mergeSort (le := fun x y : PerT => !(ltOf cfQ) y x) (fun a b c h1 h2 => by
      simp only [Bool.not_eq_true'] at h1 h2 ⊢
      exact swoQ.ntrans c b a h2 h1) (fun a b => by
      cases e1 : ltOf cfQ b a with
      | false => simp
      | true =>
        cases e2 : ltOf cfQ a b with
        | false => simp
        | true => have := swoQ.trans _ _ _ e1 e2; rw [swoQ.irrefl] at this; cases this) l
    have hn2 : l.Nodup := List.Pairwise.of_map (S := fun a b : Per => a ≠ b) (fun x : PerT => x.val) (fun a b h e => h (by rw [e])) hn
    have h2 : (l.mergeSort fun x y => !(ltOf cfQ) y x).Nodup := (List.mergeSort_perm _ _).nodup_iff.2 hn2
    refine List.Pairwise.map (R := fun a b : PerT => (!(ltOf cfQ) b a) = true ∧ a ≠ b) _ (fun a b h => ?_) (h1.and h2)
    obtain ⟨h3, h4⟩ := h
    simp only [Bool.not_eq_true'] at h3
    cases e : ltOf cfQ a b with
    | true => exact (ltQ a b).1 e
    | false => exact absurd (totQ a b e h3) h4
  · obtain ⟨y, _, rfl⟩ := List.mem_map.1 hx
    exact y.property

/-- A row whose cells stand in a block of cells owns it. -/
theorem own_of_cells {T : TypeId} {B : Nat} {w : World} {g c n : Nat} {cur : Array Value} {l : List Per} (hb : w.heap[g]? = some (.cells cur T (0, 0))) (hB : B ≤ g) (hn : n = l.length) (h1 : n ≤ c) (h2 : c ≤ maxLen) (h3 : cur.size = c * 3)
    (hc : ∀ t, t < n * 3 → w.cell? ⟨g, t, none⟩ = (flatQ l)[t]?) : OwnQ T B w (.slice (some ⟨g, 0, none⟩) n c) l := by
  subst hn
  refine ⟨flatQ_length l, Or.inr ⟨g, c, cur, rfl, hB, hb, h1, h2, h3, ?_⟩⟩
  apply List.ext_getElem?
  intro t
  by_cases ht : t < l.length * 3
  · rw [List.getElem?_take_of_lt ht, ← hc t ht]
    simp [World.cell?, hb]
  · rw [List.getElem?_take_eq_none (by omega), List.getElem?_eq_none (by rw [flatQ_length]; omega)]
theorem heap_sortedK {w : World} {g n : Nat} {os : Array Obj} {cur : Array Value} {e : TypeId} {fr : Nat × Nat} (d : Array PerT) (hb : w.heap[g]? = some (.cells cur e fr)) :
    ∃ cur', (sortWorldK encQ 3 w g 0 n d os).heap[g]? = some (.cells cur' e fr) ∧ cur'.size = cur.size := by
  have hg : g < w.heap.size := (Array.getElem?_eq_some_iff.1 hb).1
  refine ⟨putCells id 0 (flatK encQ 3 d) cur, ?_, by simp [putCells]⟩
  unfold sortWorldK putRowK
  rw [heap_grow_old _ _ (by simpa using hg)]
  simp [putRow, mapBlock, Sort.ahead, Array.getElem?_modify, hb, onCells]

theorem sortq_none (a : Option Addr) (c : Nat) (fv : Value) (w : World) : Calls Tryz.prog 26 #[.slice a 0 c, fv] w fun e w' => e = .returned (.tuple #[]) ∧ w = w' :=
  (AnyF.slices_SortFunc_none (P := Tryz.prog) (ρ := laysSortQ_ren) laysSortQ a c fv w).mono fun _ _ ⟨h1, h2⟩ => ⟨h1, h2.symm⟩

theorem sortq_some (T : TypeId) (w : World) (B : Nat) (g c : Nat) (acc : List Per) (h : OwnQ T B w (.slice (some ⟨g, 0, none⟩) acc.length c) acc) (hp : ∀ x ∈ acc, okP x = true) (hn : acc.Nodup) (hl : acc.length ≤ 1000000) :
    Calls Tryz.prog 26 #[.slice (some ⟨g, 0, none⟩) acc.length c, .func (.func 27) #[] #[]] w fun e w' => e = .returned (.tuple #[]) ∧
      ∃ r, SortQ r ∧ (∀ x, x ∈ r ↔ x ∈ acc) ∧ r.length = acc.length ∧ Pers w' (.slice (some ⟨g, 0, none⟩) acc.length c) r ∧ OwnQ T B w' (.slice (some ⟨g, 0, none⟩) acc.length c) r ∧ Kept (fun k => k = g) w w' := by
  have hg : g < w.heap.size := (World.ownsRow.lt h g rfl).2
  have hcap : acc.length ≤ c ∧ c ≤ maxLen := by
    rcases h.2 with ⟨e, _⟩ | ⟨g', cap, cur, e, _, _, h1, h2, _⟩
    · cases e
    · cases e; exact ⟨h1, h2⟩
  obtain ⟨L, hL⟩ : ∃ L, L = withQ acc hp := ⟨_, rfl⟩
  have hval : L.map (·.val) = acc := by rw [hL]; exact withQ_val acc hp
  have hlen : L.length = acc.length := by rw [← hval, List.length_map]
  have hH : HoldsK encQ 3 w g 0 L.toArray := fun j hj => by
    have hj2 : j < L.length * 3 := by rw [size_flatK] at hj; simpa using hj
    refine ⟨?_, World.ownsRow.frozenAt h (0 + j)⟩
    rw [Nat.zero_add]
    have e1 := World.ownsRow.cellAt h j (by rw [hlen] at hj2; exact hj2)
    rw [e1, ← hval]
    exact flat_getQ L j hj2
  have hS := AnyQ.slices_SortFunc_total laysSortQ 3 Tryz.isAgg35 Tryz.sizeOf35 encQ (fun _ => rfl) (fun x v hv => by simp [encQ, perC] at hv; rcases hv with rfl | rfl | rfl <;> rfl) cfQ swoQ 27 #[] g 0 c L.toArray w (enters_of Tryz.func27 (by kernel_rfl) rfl) (cmpLaysQ _ _ _ _) hH hg (by simp; omega) totQ
  have e0 : L.toArray.size = acc.length := by simpa using hlen
  rw [e0] at hS
  refine hS.mono ?_
  rintro e w' ⟨rfl, n, os, hw⟩
  have hpm := List.mergeSort_perm L (fun x y => !(ltOf cfQ) y x)
  have hvm : ((L.mergeSort fun x y => !(ltOf cfQ) y x).map (·.val)).Perm acc := by rw [← hval]; exact hpm.map _
  have hsl : ((L.mergeSort fun x y => !(ltOf cfQ) y x).map (·.val)).length = acc.length := hvm.length_eq
  have hml : (L.mergeSort fun x y => !(ltOf cfQ) y x).length = acc.length := by rw [hpm.length_eq, hlen]
  have hds : ((L.mergeSort fun x y => !(ltOf cfQ) y x).toArray).size = L.toArray.size := by simp [hpm.length_eq]
  have hSW : SWK encQ 3 w g 0 (L.mergeSort fun x y => !(ltOf cfQ) y x).toArray w' := ⟨n, os, hw⟩
  have hHo := hSW.holds hg hH hds
  have hkept : Kept (fun k => k = g) w w' := by
    rw [hw]
    refine ⟨rfl, rfl, rfl, by unfold sortWorldK putRowK; simp [size_putRow], fun k hk hne => ?_⟩
    unfold sortWorldK putRowK
    rw [heap_grow_old _ _ (by rw [size_putRow]; exact hk)]
    have : g ≠ k := fun e => hne e.symm
    simp [putRow, mapBlock, Sort.ahead, Array.getElem?_modify, this]
  have hpers := holds_persQ hHo (hSW.lt hg) (by rw [hml]; exact hcap.1) hcap.2
  rw [hml] at hpers
  refine ⟨rfl, _, sortQ_sorted L (by rw [hval]; exact hn), fun x => hvm.mem_iff, hsl, hpers, ?_, hkept⟩
  rcases h.2 with ⟨e, _⟩ | ⟨g', cap, cur, e, hB, hh, _, _, h3, _⟩
  · cases e
  · cases e
    obtain ⟨cur', hc1, hc2⟩ := heap_sortedK (n := n) (os := os) (L.mergeSort fun x y => !(ltOf cfQ) y x).toArray hh
    rw [← hw] at hc1
    refine own_of_cells hc1 hB hsl.symm hcap.1 hcap.2 (by rw [hc2]; exact h3) fun t ht => ?_
    rcases hpers with ⟨e, _⟩ | ⟨g2, off2, cap2, e, _, _, _, h4⟩
    · cases e
    · simp only [Value.slice.injEq, Option.some.injEq, Addr.mk.injEq] at e
      obtain ⟨⟨rfl, rfl, _⟩, _, _⟩ := e
      have hi : t / 3 < ((L.mergeSort fun x y => !(ltOf cfQ) y x).map (·.val)).length := by rw [hsl]; omega
      obtain ⟨a0, a1, a2⟩ := flatQ_at _ (t / 3) hi
      obtain ⟨c0, c1, c2⟩ := h4 (t / 3) hi
      rw [Nat.zero_add] at c0 c1 c2
      have hr : t % 3 = 0 ∨ t % 3 = 1 ∨ t % 3 = 2 := by omega
      rcases hr with e | e | e
      · rw [show t / 3 * 3 = t by omega] at a0 c0
        rw [a0, c0]
      · rw [show t / 3 * 3 + 1 = t by omega] at a1 c1
        rw [a1, c1]
      · rw [show t / 3 * 3 + 2 = t by omega] at a2 c2
        rw [a2, c2]
end Go.Proofs.YtnnakllgfaaejaaGreatDoor
/-
  Permissions: Normal.
-/
namespace Go.Proofs.YtnnakllgfaaejaaGreatDoor
open Go.RowKit Go.Maps Go.WideMaps Go.ChangeMaps
set_option linter.unusedSimpArgs false
set_option linter.unusedVariables false

theorem info_perQ : (Tryz.prog.info? 35).map (fun i => (i.zero, i.size, i.bytes)) = some (some (.agg #[.string ⟨#[]⟩, .string ⟨#[]⟩, .bool false]), 3, 40) := by kernel_rfl
theorem OwnQ.alloc {T : TypeId} {B : Nat} {w : World} {v : Value} {l : List Per} (h : OwnQ T B w v l) (o : Obj) : OwnQ T B (w.alloc o) v l := World.ownsRow.alloc h o
theorem OwnQ.low {T : TypeId} {B B' : Nat} {w : World} {v : Value} {l : List Per} (h : OwnQ T B w v l) (hB : B' ≤ B) : OwnQ T B' w v l := by
  refine ⟨h.1, ?_⟩
  rcases h.2 with e | ⟨g, cap, cur, e, hb, r⟩
  · exact Or.inl e
  · exact Or.inr ⟨g, cap, cur, e, Nat.le_trans hB hb, r⟩
theorem OwnQ.lt {T : TypeId} {B : Nat} {w : World} {v : Value} {l : List Per} (h : OwnQ T B w v l) : ∀ k, v.ownBlock = some k → B ≤ k ∧ k < w.heap.size := fun k hk => World.ownsRow.lt h k hk
theorem Bx.pers {w : World} {g : Nat} {x : Per} (h : Bx w g x.a x.p x.d) : Pers w (.slice (some ⟨g, 0, none⟩) 1 1) [x] :=
  Or.inr ⟨g, 0, 1, rfl, Nat.le_refl _, by unfold maxLen; omega, World.block_lt_of_cell? w _ h.c0, fun i hi => by
    obtain rfl : i = 0 := by simpa using hi
    exact ⟨h.c0, h.c1, h.c2⟩⟩

/-- An append whose run is known, asked for or not (a guard that holds). -/
theorem wpList_appendQ_run {P : Program} {w : World} {ops : Array Oper} {rest : List Oper} {o : Oper} {a : Act} {Q : Exit → Act → World → Prop} (hw : Region.wanted o (yielded ops a.tmps) = true) (s x : Operand) (t t' : TypeId)
    (ho : o.op = .call { callee := .builtin .append, args := #[s, x], argTypes := #[t, t'] }) (v u : Value) (hd : a.eval s = v) (hs : a.eval x = u) {v' : Value} {w' : World}
    (hr : (Builtin.append_ #[t, t'] o.type #[v, u]).run P w = .ok v' w') (h : wpList P ops Q rest (a.put o.dst v') w') : wpList P ops Q (o :: rest) a w := by
  refine wpList_step fun K hK => ?_
  rw [if_pos hw]
  unfold Oper.wp execOp
  simp only [ho, resolve, invoke, builtin, Sem.run_bind, Sem.run_pure, Result.andThen_ok, List.map_toArray, List.map_cons, List.map_nil, hd, hs, hr]
  exact hK _ _ h
/-- An append of one permission to a row of the call's own. -/
theorem wpList_pushQ {ts te : TypeId} (hu : Tryz.prog.underlying ts = some (.slice te)) (hie : (Tryz.prog.info? te).map (fun i => (i.zero, i.size, i.bytes)) = some (some (.agg #[.string ⟨#[]⟩, .string ⟨#[]⟩, .bool false]), 3, 40))
    {w : World} {ops : Array Oper} {rest : List Oper} {o : Oper} {a : Act} {Q : Exit → Act → World → Prop} (hw : Region.wanted o (yielded ops a.tmps) = true) (s x : Operand)
    (ho : o.op = .call { callee := .builtin .append, args := #[s, x], argTypes := #[ts, ts] }) (hty : o.type = ts) (B : Nat) (v : Value) (acc : List Per) (g : Nat) (z : Per) (hd : a.eval s = v) (hs : a.eval x = .slice (some ⟨g, 0, none⟩) 1 1)
    (hown : OwnQ te B w v acc) (hz : Bx w g z.a z.p z.d) (hl : acc.length ≤ 900000) (hB : B ≤ w.heap.size)
    (h : ∀ a' c' w', OwnQ te B w' (.slice a' (acc.length + 1) c') (acc ++ [z]) → Kept (fun k => v.ownBlock = some k) w w' → wpList Tryz.prog ops Q rest (a.put o.dst (.slice a' (acc.length + 1) c')) w') : wpList Tryz.prog ops Q (o :: rest) a w := by
  obtain ⟨a', c', w', hr, hf, hk⟩ := append_pers_run hu hie hown hz.pers (by simp; omega) hB
  rw [List.length_append] at hr hf
  exact wpList_appendQ_run hw s x _ _ ho _ _ hd hs (by rw [hty]; exact hr) (h _ _ _ hf hk)

abbrev tQ : TypeId := 35
theorem rangesQ_kept {a b : World} {bs r n cnt : Nat} {D : DataW Unit} {left : Lit → Bool} (h : a.ranges Tryz.prog 35 (plainElem Tryz.prog 4) bs r n D left cnt) (hk : Kept (fun _ => False) a b) : b.ranges Tryz.prog 35 (plainElem Tryz.prog 4) bs r n D left cnt := by
  obtain ⟨es, clock, since, seen, c0, h1, h2, h3, h4, h5, h6⟩ := h
  exact ⟨es, clock, since, seen, c0, (hk.block bs (Array.getElem?_eq_some_iff.1 h1).1 (fun h => h)).trans h1, h2, h3, h4, (hk.block r (Array.getElem?_eq_some_iff.1 h5).1 (fun h => h)).trans h5, h6⟩

/-- What Normal answers. -/
structure NormRes (w w' : World) (l : List Per) (v : Value) (r : List Per) : Prop where
  norm : NormS l r
  own : OwnQ 35 w.heap.size w' v r
  kept : Kept (fun _ => False) w w'
  len : r.length ≤ l.length

/-- What has been found so far. -/
structure NmInv (w wr : World) (m n : Nat) (D : DataW Unit) (l : List Per) (v : Value) (acc : List Per) (left : Lit → Bool) (cnt : Nat) : Prop where
  rg : wr.ranges Tryz.prog 35 (plainElem Tryz.prog 4) m w.heap.size n D left cnt
  row : OwnQ 35 w.heap.size wr v acc
  mem : ∀ x, x ∈ acc ↔ (x ∈ l ∧ okP x = true ∧ left (klQ x) = false ∧ excP l x = false)
  nodup : acc.Nodup
  len : acc.length + cnt ≤ n
  kept : Kept (fun _ => False) w wr

theorem klQ_same {x y : Per} : (klQ x).sameKey (klQ y) = true ↔ klQ x = klQ y := ⟨fun e => WideAt.sameKey_eq e, fun e => by rw [e]; exact WideAt.sameKey_self (a := klQ y) trivial⟩
theorem leftQ {left : Lit → Bool} {x y : Per} (hx : smallQ x) (hy : smallQ y) : (left (klQ x) && !(klQ x).sameKey (klQ y)) = false ↔ (left (klQ x) = false ∨ x = y) := by
  rw [Bool.and_eq_false_iff]
  constructor
  · rintro (e | e)
    · exact Or.inl e
    · right
      rw [Bool.not_eq_false'] at e
      exact klQ_inj hx hy (klQ_same.1 e)
  · rintro (e | rfl)
    · exact Or.inl e
    · right
      rw [klQ_same.2 rfl]; rfl
theorem nodup_le {l m : List Per} (hn : l.Nodup) (h : ∀ x ∈ l, x ∈ m) : l.length ≤ m.length := by
  induction l generalizing m with
  | nil => exact Nat.zero_le _
  | cons x t ih =>
    have hx : x ∈ m := h x (by simp)
    have h2 := ih (m := m.erase x) (List.nodup_cons.1 hn).2 fun y hy => by
      have hne : y ≠ x := fun e => by subst e; exact (List.nodup_cons.1 hn).1 hy
      exact (List.mem_erase_of_ne hne).2 (h y (List.mem_cons_of_mem _ hy))
    rw [List.length_erase_of_mem hx] at h2
    have : 0 < m.length := List.length_pos_of_mem hx
    rw [List.length_cons]; omega

set_option maxRecDepth 100000 in
set_option maxHeartbeats 3200000 in
theorem normal_any (w0 : World) (v : Value) (l : List Per) (h : Pers w0 v l) (hb : bdQ l) (hl : l.length ≤ 50000) :
    Calls Tryz.prog 9 #[v] w0 fun e w' => ∃ v' r, e = .returned v' ∧ NormRes w0 w' l v' r := by
  have HS := Lib.hid (setOf_any w0 v l h hb (by omega))
  have HBD := Lib.hid hb
  clear h hb
  go_enter Tryz.func9, Tryz.ntmps9
  go_wp2_with fail
  refine HS.out.mono ?_
  rintro e w ⟨m, n, D, rfl, h1, h2, hnl, hm0, k0⟩
  have H1 := Lib.hid h1; have H2 := Lib.hid h2; have K0 := Lib.hid k0
  have hml := h1.lt
  have hsz := h1.size_le
  clear HS h1 h2 k0
  go_wp2_with (first
    | (at_range; refine wpList_range_own _ rfl _ 52 rfl 35 4 lawQ Tryz.underlying52 _ m n _ rfl H1.out ?_; intro w1 hrg0 hg0 hs0)
    | fail)
  try go_frame
  have HI0 : Hid (NmInv w w1 m n D l (.slice none 0 0) [] (Maps.has D) (Maps.size D)) :=
    ⟨hrg0, OwnQ.nil _ _ _, (fun x => by
      constructor
      · intro hh; simp at hh
      · rintro ⟨a1, a2, a3, _⟩
        have := (H2.out x (bdQ_small HBD.out a1)).1
        rw [this] at a3
        have h4 := (memP_iff l x).2 ⟨a1, a2⟩
        rw [h4] at a3; cases a3), List.nodup_nil, by simpa using hsz, Kept.ofGrown hg0 (fun k e => by cases e)⟩
  clear hrg0 hg0
  go_loopw [4, 5] (fun lv _ wr => ∃ (left : Lit → Bool) (cnt : Nat) (a : Option Addr) (c : Nat) (acc : List Per), lv = .slice a acc.length c ∧ Hid (NmInv w wr m n D l (.slice a acc.length c) acc left cnt))
    (fun _ _ wr => wr.rangeLeft m w.heap.size)
  case atStart => exact ⟨_, _, none, 0, [], rfl, HI0⟩
  case round =>
    obtain ⟨left, cnt, a, c, acc, rfl, hI⟩ := hrel
    have hrg := hI.out.rg
    clear HI0
    go_wp2_with (first
      | (at_next; refine wpList_next_ranges _ rfl _ rfl 35 lawQ (plainElem Tryz.prog 4) perV vB (fun key kl h => by obtain ⟨s, rfl, _⟩ := key_invQ h; exact ⟨s, rfl⟩) (fun v y h => pl_vB_inv h) m w.heap.size n _ _ _ rfl hrg ?_ ?_)
      | fail)
    · intro hc0 hl0
      have hmem := hI.out.mem
      have hown := hI.out.row
      have hnd := hI.out.nodup
      have hle := hI.out.len
      have hkw := hI.out.kept
      have hpth : ∀ x ∈ acc, okP x = true := fun x hx => ((hmem x).1 hx).2.1
      have HMEM : Hid (∀ x, x ∈ acc ↔ (x ∈ l ∧ okP x = true ∧ excP l x = false)) := fun x => by rw [hmem x, hl0]; simp
      have HLEN : Hid (acc.length ≤ l.length) := Lib.hid (nodup_le hnd fun x hx => ((hmem x).1 hx).1)
      have HW : Hid (w0.heap.size ≤ w.heap.size) := Lib.hid K0.out.size
      by_cases hn0 : acc = []
      · subst hn0
        have HR : Hid (NormRes w0 wr l (.slice a 0 c) []) := ⟨⟨⟨List.Pairwise.nil, by simp⟩, HMEM.out⟩, hown.low HW.out, K0.out.then hkw, by simp⟩
        clear hmem hown hnd hle hkw hpth hI hrg hl0
        go_wp2_with fail
        refine (sortq_none a c _ _).mono ?_
        rintro e w2 ⟨rfl, rfl⟩
        go_wp2_with fail
        go_ret
        exact ⟨_, _, rfl, HR.out⟩
      · obtain ⟨gb, rfl⟩ : ∃ gb, a = some ⟨gb, 0, none⟩ := by
          rcases hown.2 with ⟨_, h0⟩ | ⟨g', cap, cur, e, _⟩
          · exact absurd (List.length_eq_zero_iff.1 h0) hn0
          · cases e; exact ⟨g', rfl⟩
        have hS := sortq_some _ wr w.heap.size gb c acc hown hpth hnd (by have := HLEN.out; omega)
        have hgb : w.heap.size ≤ gb := (hown.lt gb rfl).1
        obtain ⟨q, hq⟩ : ∃ q, q = acc.length := ⟨_, rfl⟩
        have HS := Lib.hid hS; have HKW := Lib.hid hkw; have HQ := Lib.hid hq
        rw [← hq] at HS ⊢
        clear hmem hown hnd hle hkw hpth hI hrg hl0 hS hq hn0
        go_wp2_with fail
        refine HS.out.mono ?_
        rintro e w2 ⟨rfl, r, hr1, hr2, hr3, hr4, hr5, hr6⟩
        have HR : Hid (NormRes w0 w2 l (.slice (some ⟨gb, 0, none⟩) q c) r) := ⟨⟨hr1, fun x => by rw [hr2 x]; exact HMEM.out x⟩, hr5.low HW.out, K0.out.then (HKW.out.trans hr6 (fun _ _ h => h) (fun i hi e => by omega)), by have := HLEN.out; have := HQ.out; omega⟩
        clear hr1 hr2 hr3 hr4 hr5 hr6
        go_wp2_with fail
        go_ret
        exact ⟨_, _, rfl, HR.out⟩
    · intro x cv kl y ys w1 cnt1 hkey hlx hv hat hrg1 hlt hg1 hs1 hen
      have hvb : vB cv = .bool (decide (cv = 1)) := rfl
      rw [hvb] at hv hen ⊢
      generalize decide (cv = 1) = cb at hv hen ⊢
      obtain ⟨x', ex, rfl, hxs1, hxs2⟩ := key_invQ hkey
      obtain rfl := perV_inj ex
      have hsx : smallQ x := ⟨hxs1, hxs2⟩
      have hxl : x ∈ l ∧ okP x = true := by
        have := has_true_of_atKey hat
        rw [(H2.out x hsx).1] at this
        exact (memP_iff l x).1 this
      have hxz := HBD.out x hxl.1
      have hmem := hI.out.mem
      have hxa : x ∉ acc := fun e => by have := ((hmem x).1 e).2.2.1; rw [hlx] at this; cases this
      have hk01 : Kept (fun k => k = w.heap.size) wr w1 := Kept.ofGrown hg1 (fun k e => (Option.some.inj e).symm)
      have hkw1 : Kept (fun _ => False) w w1 := hI.out.kept.trans hk01 (fun _ _ h => h) (fun i hi e => by omega)
      have hnotit : ∀ k, (Value.slice a acc.length c).ownBlock = some k → k ≠ w.heap.size := fun k hk e => by
        subst e
        have hb := hI.out.row
        rcases hb.2 with ⟨e, _⟩ | ⟨g', cap, cur, e, _, hh, _⟩
        · injection e with e1 e2 e3; rw [e1] at hk; cases hk
        · cases e
          have hgw : g' = w.heap.size := by simpa [Value.ownBlock] using hk
          obtain ⟨es, clock, since, seen, c0, _, _, _, _, h5, _⟩ := hrg
          rw [hgw, h5] at hh
          cases hh
      have hrow1 : OwnQ 35 w.heap.size w1 (.slice a acc.length c) acc := hI.out.row.kept hk01 hnotit
      have hnd := hI.out.nodup
      have hle := hI.out.len
      have hmapw1 := ownMQ_kept H1.out hkw1 (fun h => h)
      have hmem1 : excP l x = true → ∀ s, s ∈ acc ↔ (s ∈ l ∧ okP s = true ∧ (left (klQ s) && !(klQ s).sameKey (klQ x)) = false ∧ excP l s = false) := fun hkx s => by
        rw [hmem s]
        constructor
        · rintro ⟨a1, a2, a3, a4⟩; exact ⟨a1, a2, (leftQ (bdQ_small HBD.out a1) hsx).2 (Or.inl a3), a4⟩
        · rintro ⟨a1, a2, a3, a4⟩
          rcases (leftQ (bdQ_small HBD.out a1) hsx).1 a3 with a3 | rfl
          · exact ⟨a1, a2, a3, a4⟩
          · rw [hkx] at a4; cases a4
      have hmem2 : excP l x = false → ∀ s, s ∈ acc ++ [x] ↔ (s ∈ l ∧ okP s = true ∧ (left (klQ s) && !(klQ s).sameKey (klQ x)) = false ∧ excP l s = false) := fun hkx s => by
        rw [List.mem_append, hmem s, List.mem_singleton]
        constructor
        · rintro (⟨a1, a2, a3, a4⟩ | rfl)
          · exact ⟨a1, a2, (leftQ (bdQ_small HBD.out a1) hsx).2 (Or.inl a3), a4⟩
          · exact ⟨hxl.1, hxl.2, (leftQ hsx hsx).2 (Or.inr rfl), hkx⟩
        · rintro ⟨a1, a2, a3, a4⟩
          rcases (leftQ (bdQ_small HBD.out a1) hsx).1 a3 with a3 | rfl
          · exact Or.inl ⟨a1, a2, a3, a4⟩
          · exact Or.inr rfl
      have HM1 := Lib.hid hmem1; have HM2 := Lib.hid hmem2; have HND := Lib.hid hnd; have HXA := Lib.hid hxa
      have HRG1 := Lib.hid hrg1; have HROW1 := Lib.hid hrow1; have HKW1 := Lib.hid hkw1; have HLE := Lib.hid hle
      have HLEQ := Lib.hid hrg.left_eq
      have hal : acc.length ≤ 50000 := by omega
      have hax := ask_exc (l := l) hxl.2
      obtain ⟨xa, xp, xd⟩ := x
      simp only at hxz
      have HKx := Lib.hid (fun W (hW : Kept (fun _ => False) w1 W) => exceeds_any W m n D (memP l) ⟨xa, xp, xd⟩ (ownMQ_kept hmapw1 hW (fun h => h)) H2.out hxz.1 hxz.2)
      rw [hax] at HKx
      obtain ⟨b, hb⟩ : ∃ b, b = excP l ⟨xa, xp, xd⟩ := ⟨_, rfl⟩
      rw [← hb] at HKx
      have HB := Lib.hid hb
      obtain ⟨kx, hkx⟩ : ∃ kx, kx = klQ ⟨xa, xp, xd⟩ := ⟨_, rfl⟩
      rw [← hkx] at HM1 HM2 HRG1
      have HBX := Lib.hid (Bx.new w1 xa xp xd 35)
      rw [hs1] at HBX
      have HKA := Lib.hid (Kept.alloc (fun _ => False) w1 (.cells #[.string xa, .string xp, .bool xd] 35))
      unfold perV at HKx hen ⊢
      simp only at HKx hen ⊢
      clear hmem hxl hxz hxa hk01 hrow1 hnd hle hmem1 hmem2 hI hrg hrg1 hv hat hkey hg1 hvb hnotit hkw1 hb hax hmapw1 hsx hkx hxs1 hxs2 ex
      cases b with
      | true =>
        go_wp2_with (first
          | (go_at_call 25; refine (HKx.out _ HKA.out).mono ?_
             generalize w1.alloc (.cells #[.string xa, .string xp, .bool xd] 35) = W2 at *
             rintro e w3 ⟨rfl, hk3⟩; have HK3 := Lib.hid (HKA.out.then hk3); clear hk3))
        have HI3 : Hid (NmInv w w3 m n D l (.slice a acc.length c) acc (fun z => left z && !z.sameKey kx) cnt1) := ⟨rangesQ_kept HRG1.out HK3.out, HROW1.out.kept HK3.out (fun _ _ h => h), HM1.out HB.out.symm, HND.out, by have := HLE.out; omega, HKW1.out.then HK3.out⟩
        have HL3 := Lib.hid (rangesQ_kept HRG1.out HK3.out).left_eq
        go_roundw
        case rel => exact ⟨_, cnt1, a, c, acc, rfl, HI3⟩
        case measure => rw [HL3.out, HLEQ.out]; exact hlt
      | false =>
        go_wp2_with (first
          | (go_at_call 25; refine (HKx.out _ HKA.out).mono ?_
             generalize w1.alloc (.cells #[.string xa, .string xp, .bool xd] 35) = W2 at *
             rintro e w3 ⟨rfl, hk3⟩; have HK3 := Lib.hid (HKA.out.then hk3); obtain ⟨c0, c1, c2⟩ := HBX.out.stay hk3; have hsz3 := (HKW1.out.then HK3.out).size
             have HROW3 := Lib.hid (HROW1.out.kept HK3.out (fun _ _ h => h)); have HRG3 := Lib.hid (rangesQ_kept HRG1.out HK3.out); clear hk3)
          | (at_builtin; refine wpList_pushQ Tryz.underlying27 info_perQ (by rfl) _ _ rfl rfl w.heap.size _ acc w3.heap.size ⟨xa, xp, xd⟩ rfl rfl (HROW3.out.alloc _) (Bx.new w3 xa xp xd 35) (by omega) (by simp; omega) ?_; intro a' c' w4 hown4 hk4; have HOWN4 := Lib.hid hown4; have HKK4 := Lib.hid hk4; clear hown4 hk4))
        have hown4 := HOWN4.out
        have hk4 := HKK4.out
        have hka : Kept (fun _ => False) w3 (w3.alloc (.cells #[.string xa, .string xp, .bool xd] 35)) := Kept.alloc _ _ _
        have hrg4 : w4.ranges Tryz.prog 35 (plainElem Tryz.prog 4) m w.heap.size n D (fun z => left z && !z.sameKey kx) cnt1 := by
          have hq := rangesQ_kept HRG3.out hka
          obtain ⟨es, clock, since, seen, c0, q1, q2, q3, q4, q5, q6⟩ := hq
          have hnb : ∀ k, (Value.slice a acc.length c).ownBlock = some k → k ≠ w.heap.size ∧ w.heap.size ≤ k := fun k hk => by
            refine ⟨fun e => ?_, (HROW3.out.lt k hk).1⟩
            subst e
            rcases (HROW3.out.alloc (.cells #[.string xa, .string xp, .bool xd] 35)).2 with ⟨e, _⟩ | ⟨g', cap, cur, e, _, hh, _⟩
            · injection e with e1 e2 e3; rw [e1] at hk; cases hk
            · cases e
              have hgw : g' = w.heap.size := by simpa [Value.ownBlock] using hk
              rw [hgw, q5] at hh
              cases hh
          exact ⟨es, clock, since, seen, c0, (hk4.block m (Array.getElem?_eq_some_iff.1 q1).1 (fun e => by have := (hnb m e).2; omega)).trans q1, q2, q3, q4, (hk4.block w.heap.size (Array.getElem?_eq_some_iff.1 q5).1 (fun e => (hnb _ e).1 rfl)).trans q5, q6⟩
        have HI4 : Hid (NmInv w w4 m n D l (.slice a' (acc ++ [Per.mk xa xp xd]).length c') (acc ++ [⟨xa, xp, xd⟩]) (fun z => left z && !z.sameKey kx) cnt1) :=
          ⟨hrg4, by rw [List.length_append]; exact hown4, HM2.out HB.out.symm, by rw [List.nodup_append]; exact ⟨HND.out, by simp, fun p hp q hq e => by simp at hq; subst hq; subst e; exact HXA.out hp⟩, by rw [List.length_append]; have := HLE.out; simp; omega, ((HKW1.out.then HK3.out).then hka).trans hk4 (fun _ _ h => h) (fun i hi e => by have := (HROW3.out.lt i e).1; omega)⟩
        have HL4 := Lib.hid hrg4.left_eq
        clear hown4 hk4 hka hrg4
        go_roundw
        case rel => exact ⟨_, cnt1, a', c', acc ++ [Per.mk xa xp xd], by rw [List.length_append]; rfl, HI4⟩
        case measure => rw [HL4.out, HLEQ.out]; exact hlt
end Go.Proofs.YtnnakllgfaaejaaGreatDoor
/-
  arbaclaw11.List: permissions of both kinds out of raw ones.
-/
namespace Go.Proofs.YtnnakllgfaaejaaGreatDoor
open Go.RowKit
attribute [local go_sem ↓] Go.wp_at_zero Go.wp_at_succ
set_option linter.unusedSimpArgs false
set_option linter.unusedVariables false
set_option maxRecDepth 100000

theorem info_perR : (Tryz.prog.info? 36).map (fun i => (i.zero, i.size, i.bytes)) = some (some (.agg #[.string ⟨#[]⟩, .string ⟨#[]⟩, .bool false]), 3, 40) := by kernel_rfl
theorem Zb.bx {w : World} {g : Nat} {T : TypeId} {a p : ByteArray} {d : Bool} (h : Zb w g T (.string a) (.string p) (.bool d)) : Bx w g a p d := ⟨h.cells.1.1, h.cells.1.2.1, h.cells.1.2.2⟩
theorem own_neQ {T T' : TypeId} {B B' : Nat} {w : World} {v v' : Value} {l l' : List Per} (h : OwnQ T B w v l) (h' : OwnQ T' B' w v' l') (hT : T ≠ T') {k : Nat} (hk : v.ownBlock = some k) (hk' : v'.ownBlock = some k) : False := by
  rcases h.2 with ⟨rfl, _⟩ | ⟨g, cap, cur, rfl, _, hg, _⟩
  · cases hk
  · rcases h'.2 with ⟨rfl, _⟩ | ⟨g', cap', cur', rfl, _, hg', _⟩
    · cases hk'
    · have e1 : g = k := by simpa [Value.ownBlock] using hk
      have e2 : g' = k := by simpa [Value.ownBlock] using hk'
      rw [e1] at hg
      rw [e2, hg] at hg'
      injection hg' with h1
      injection h1 with h2 h3
      exact hT h3
theorem zb_neQ {T T' : TypeId} {B : Nat} {w : World} {g : Nat} {x y z v : Value} {l : List Per} (h : Zb w g T x y z) (h' : OwnQ T' B w v l) (hT : T ≠ T') (hk : v.ownBlock = some g) : False := by
  rcases h'.2 with ⟨rfl, _⟩ | ⟨g', cap', cur', rfl, _, hg', _⟩
  · cases hk
  · have e2 : g' = g := by simpa [Value.ownBlock] using hk
    unfold Zb at h
    rw [e2, h] at hg'
    injection hg' with h1
    injection h1 with h2 h3
    exact hT h3
theorem step_append_perQ {ts te : TypeId} (hu : Tryz.prog.underlying ts = some (.slice te)) (hie : (Tryz.prog.info? te).map (fun i => (i.zero, i.size, i.bytes)) = some (some (.agg #[.string ⟨#[]⟩, .string ⟨#[]⟩, .bool false]), 3, 40))
    {w : World} {ops : Array Oper} {o : Oper} {a : Act} {K : Act → World → Prop} {Q : Exit → Act → World → Prop} {E : Prop} (hw : Region.wanted o (yielded ops a.tmps) = true) (s x : Operand)
    (ho : o.op = .call { callee := .builtin .append, args := #[s, x], argTypes := #[ts, ts] }) (hty : o.type = ts) (B n : Nat) {acc : List Per} (hn : acc.length = n) (v : Value) (g : Nat) (z : Per) (hd : a.eval s = v) (hs : a.eval x = .slice (some ⟨g, 0, none⟩) 1 1)
    (hown : OwnQ te B w v acc) (hz : Bx w g z.a z.p z.d) (hl : n ≤ 900000) (hB : B ≤ w.heap.size)
    (h : ∀ a' c' w', OwnQ te B w' (.slice a' (n + 1) c') (acc ++ [z]) → Kept (fun k => v.ownBlock = some k) w w' → K (a.put o.dst (.slice a' (n + 1) c')) w') :
    if Region.wanted o (yielded ops a.tmps) = true then Oper.wp Tryz.prog o a w K Q else E := by
  subst hn
  rw [if_pos hw]
  obtain ⟨a', c', w', hr, hf, hk⟩ := append_pers_run hu hie hown hz.pers (by simp; omega) hB
  rw [List.length_append] at hr hf
  have hrun2 : (Builtin.append_ #[ts, ts] o.type #[v, .slice (some ⟨g, 0, none⟩) 1 1]).run Tryz.prog w = .ok (.slice a' (acc.length + 1) c') w' := by rw [hty]; exact hr
  unfold Oper.wp execOp
  simp only [ho, resolve, invoke, builtin, Sem.run_bind, Sem.run_pure, Result.andThen_ok, List.map_toArray, List.map_cons, List.map_nil, hd, hs, hrun2]
  exact h _ _ _ hf hk

theorem acc_next {rs : List RawP} {k : Nat} {r : RawP} (h : rs[k]? = some r) : (rs.take (k + 1)).map RawP.per = (rs.take k).map RawP.per ++ [r.per] := by
  rw [List.take_add_one, h]; simp
/-- The rows that the round writes to. -/
def LsS (x y : Value) (i : Nat) : Prop := x.ownBlock = some i ∨ y.ownBlock = some i
def RawsIn (w : World) (v : Value) (rs : List RawP) (B : Nat) : Prop :=
  ∃ a c, v = .slice a rs.length c ∧ rs.length ≤ c ∧ c ≤ maxLen ∧ ∀ k (r : RawP), rs[k]? = some r → ∃ g off nv, a = some ⟨g, off, none⟩ ∧ g < B ∧
    w.cell? ⟨g, off + k * 3, none⟩ = some (.int .u8 r.n) ∧ w.cell? ⟨g, off + k * 3 + 1, none⟩ = some nv ∧ w.cell? ⟨g, off + k * 3 + 2, none⟩ = some (.bool r.d) ∧ RawIn w (.agg #[.int .u8 r.n, nv, .bool r.d]) r B
/-- What stands after k rounds. -/
structure LsInv (w wr : World) (xv yv : Value) (rs : List RawP) (k : Nat) : Prop where
  x : OwnQ 35 w.heap.size wr xv ((rs.take k).map RawP.per)
  y : OwnQ 36 w.heap.size wr yv ((rs.take k).map RawP.per)
  kept : Kept (fun _ => False) w wr
theorem RawsIn.kept {a b : World} {v : Value} {rs : List RawP} {B : Nat} (h : RawsIn a v rs B) (hk : Kept (fun _ => False) a b) : RawsIn b v rs B := by
  obtain ⟨x, c, h1, h2, h3, h4⟩ := h
  refine ⟨x, c, h1, h2, h3, fun k r hr => ?_⟩
  obtain ⟨g, off, nv, e, hg, c0, c1, c2, hin⟩ := h4 k r hr
  exact ⟨g, off, nv, e, hg, (hk.cell (World.block_lt_of_cell? a _ c0) (fun h => h)).trans c0, (hk.cell (World.block_lt_of_cell? a _ c1) (fun h => h)).trans c1, (hk.cell (World.block_lt_of_cell? a _ c2) (fun h => h)).trans c2, hin.kept hk (fun _ _ h => h)⟩

set_option maxHeartbeats 6400000 in
theorem list11_any (v : Value) (rs : List RawP) (B : Nat) (w : World) (h : RawsIn w v rs B) :
    Calls Tryz.prog 8 #[v] w fun e w' => ∃ xa xc ya yc, e = .returned (.tuple #[.slice xa ((rs.take 8).map RawP.per).length xc, .slice ya ((rs.take 8).map RawP.per).length yc]) ∧
      OwnQ 35 w.heap.size w' (.slice xa ((rs.take 8).map RawP.per).length xc) ((rs.take 8).map RawP.per) ∧ OwnQ 36 w.heap.size w' (.slice ya ((rs.take 8).map RawP.per).length yc) ((rs.take 8).map RawP.per) ∧ Kept (fun _ => False) w w' := by
  have HR := Lib.hid h
  obtain ⟨a0, c0, rfl, hc1, hc2, _⟩ := h
  obtain ⟨N, hN⟩ : ∃ N, N = rs.length := ⟨_, rfl⟩
  rw [← hN] at HR hc1 ⊢
  have HN := Lib.hid hN
  obtain ⟨R, hRR⟩ : ∃ R, R = (rs.take 8).map RawP.per := ⟨_, rfl⟩
  rw [← hRR]
  obtain ⟨L, hLL⟩ : ∃ L, L = R.length := ⟨_, rfl⟩
  rw [← hLL]
  have HRR := Lib.hid hRR
  have HLL := Lib.hid hLL
  clear hRR hLL
  unfold maxLen at hc2
  have HI0 : Hid (LsInv w w (.slice none 0 0) (.slice none 0 0) rs 0) := Lib.hid ⟨OwnQ.nil _ _ _, OwnQ.nil _ _ _, Kept.refl _ _⟩
  clear hN
  go_enter Tryz.func8, Tryz.ntmps8
  go_wp2_with fail
  go_loopw [4, 5, 6, 7, 8] (fun xv yv iv _ _ wr => ∃ (k : Nat) (xa : Option Addr) (xc : Nat) (ya : Option Addr) (yc : Nat), k ≤ N ∧ k ≤ 8 ∧ iv = .int .i64 (k : Int) ∧ xv = .slice xa k xc ∧ yv = .slice ya k yc ∧ Hid (LsInv w wr (.slice xa k xc) (.slice ya k yc) rs k)) (fun _ _ iv _ _ _ => N - (intOf iv).toNat)
  case atStart => exact ⟨0, none, 0, none, 0, Nat.zero_le _, Nat.zero_le _, rfl, rfl, rfl, HI0⟩
  case round =>
    obtain ⟨k, xa, xc, ya, yc, hk, hk8, rfl, rfl, rfl, hI⟩ := hrel
    clear HI0
    have l0 : (0 : Int) ≤ (k : Int) := by omega
    by_cases hlt : k < N ∧ k < 8
    · obtain ⟨hlt1, hlt2⟩ := hlt
      have l1 : (k : Int) < (N : Int) := by omega
      have l2 : (k : Int) < 8 := by omega
      obtain ⟨r, hr⟩ : ∃ r, rs[k]? = some r := ⟨_, List.getElem?_eq_getElem (by have := HN.out; omega)⟩
      have hkept := hI.out.kept
      obtain ⟨g0, off, nv, ea, hg0, d0, d1, d2, hin⟩ := (by
        obtain ⟨a1, c1, e1, _, _, hh⟩ := HR.out.kept hkept
        obtain ⟨g0, off, nv, ea, hrest⟩ := hh k r hr
        cases e1
        exact ⟨g0, off, nv, ea, hrest⟩ : ∃ g0 off nv, a0 = some ⟨g0, off, none⟩ ∧ g0 < B ∧ wr.cell? ⟨g0, off + k * 3, none⟩ = some (.int .u8 r.n) ∧ wr.cell? ⟨g0, off + k * 3 + 1, none⟩ = some nv ∧ wr.cell? ⟨g0, off + k * 3 + 2, none⟩ = some (.bool r.d) ∧ RawIn wr (.agg #[.int .u8 r.n, nv, .bool r.d]) r B)
      subst ea
      have HM := Lib.hid (make11_any _ r B wr hin)
      have hnx := acc_next hr
      have hln : ((rs.take k).map RawP.per).length = k := by rw [List.length_map, List.length_take]; have := HN.out; omega
      have hx := hI.out.x
      have hy := hI.out.y
      obtain ⟨n0, xs0, e0⟩ := r
      simp only at HM d0 d1 d2
      generalize RawP.per ⟨n0, xs0, e0⟩ = y at HM hnx
      generalize (rs.take k).map RawP.per = acc at hnx hln hx hy
      obtain ⟨a, p, d⟩ := y
      unfold perV at HM
      simp only at HM
      have HEQ := Lib.hid hnx; have HLN := Lib.hid hln; have HX := Lib.hid hx; have HY := Lib.hid hy; have HKW := Lib.hid hkept
      have HAL := Lib.hid (show k ≤ 8 by omega)
      clear hr hin hkept hnx hln hx hy hI hg0
      go_wp2_with fail
      refine HM.out.mono ?_
      rintro e w3 ⟨rfl, k3⟩
      have hka := k3.then ((Kept.alloc (fun _ => False) w3 (.cells #[.string a, .string p, .bool d] 35)).then (Kept.alloc (fun _ => False) _ (.cells #[.string a, .string p, .bool d] 36)))
      have BP := Lib.hid ((Bx.new w3 a p d 35).stay (Kept.alloc (fun _ => False) _ (.cells #[.string a, .string p, .bool d] 36)))
      have BQ := Lib.hid (Bx.new (w3.alloc (.cells #[.string a, .string p, .bool d] 35)) a p d 36)
      have g1 : (w3.alloc (.cells #[.string a, .string p, .bool d] 35)).heap.size = w3.heap.size + 1 := by simp
      rw [g1] at BQ
      have HIX := Lib.hid (HX.out.kept hka (fun _ _ h => h))
      have HIY := Lib.hid (HY.out.kept hka (fun _ _ h => h))
      have KZ := Lib.hid (HKW.out.then hka)
      have hlow : ∀ i, LsS (.slice xa k xc) (.slice ya k yc) i → w.heap.size ≤ i ∧ i < w3.heap.size := fun i hi => hi.elim (fun e => ⟨(HX.out.lt i e).1, Nat.lt_of_lt_of_le (HX.out.lt i e).2 k3.size⟩) (fun e => ⟨(HY.out.lt i e).1, Nat.lt_of_lt_of_le (HY.out.lt i e).2 k3.size⟩)
      have HLOW := Lib.hid hlow
      clear k3 d0 d1 d2 g1 HM HX HY HKW hka hlow
      go_wp2_with fail
      generalize (w3.alloc (.cells #[.string a, .string p, .bool d] 35)).alloc (.cells #[.string a, .string p, .bool d] 36) = wz at *
      generalize w3.heap.size = g at *
      have HC : Hid (∀ W, Kept (LsS (.slice xa k xc) (.slice ya k yc)) wz W → ((W.cell? ⟨g, 0, none⟩ = some (.string a) ∧ W.cell? ⟨g, 1, none⟩ = some (.string p) ∧ W.cell? ⟨g, 2, none⟩ = some (.bool d)) ∧ (W.cell? ⟨g + 1, 0, none⟩ = some (.string a) ∧ W.cell? ⟨g + 1, 1, none⟩ = some (.string p) ∧ W.cell? ⟨g + 1, 2, none⟩ = some (.bool d)))) := Lib.hid fun W hk => by
        have b1 := BP.out.kept hk (fun e => by have := (HLOW.out _ e).2; omega)
        have b2 := BQ.out.kept hk (fun e => by have := (HLOW.out _ e).2; omega)
        exact ⟨⟨b1.c0, b1.c1, b1.c2⟩, b2.c0, b2.c1, b2.c2⟩
      have KD := Lib.hid ((Kept.refl (LsS (.slice xa k xc) (.slice ya k yc)) wz).drew)
      have OX0 := Lib.hid (HIX.out.kept ((Kept.refl (fun _ => False) wz).drew) (fun _ _ h => h))
      have OY0 := Lib.hid (HIY.out.kept ((Kept.refl (fun _ => False) wz).drew) (fun _ _ h => h))
      clear BP BQ HIX HIY
      refine wp_region_held_drew (S := fun w9 => (w9.cell? ⟨g, 0, none⟩ = some (.string a) ∧ w9.cell? ⟨g, 1, none⟩ = some (.string p) ∧ w9.cell? ⟨g, 2, none⟩ = some (.bool d)) ∧ (w9.cell? ⟨g + 1, 0, none⟩ = some (.string a) ∧ w9.cell? ⟨g + 1, 1, none⟩ = some (.string p) ∧ w9.cell? ⟨g + 1, 2, none⟩ = some (.bool d))) (by kernel_rfl) (HC.out _ KD.out) (fun _ => ?_)
      generalize wz.drew = Wd at KD OX0 OY0 ⊢
      refine wpAnyH_take (i := 0) (v := .slice xa k xc) rfl (by kernel_rfl) (by kernel_rfl) (by kernel_rfl) (fun _ _ _ h => h) (Or.inl ⟨by simp [Region.wanted, yielded], fun W hW => by obtain ⟨⟨s0, s1, s2⟩, s3, s4, s5⟩ := hW; go_simp⟩) (HC.out _ KD.out) ?_
      try (simp only [Act.put, List.getElem_toArray, List.getElem_cons_succ, List.getElem_cons_zero, List.setIfInBounds_toArray, List.set_cons_zero, List.set_cons_succ])
      refine wpAnyH_take (i := 1) (v := .agg #[.string a, .string p, .bool d]) rfl (by kernel_rfl) (by kernel_rfl) (by kernel_rfl) (fun _ _ _ h => h) (Or.inl ⟨by simp [Region.wanted, yielded], fun W hW => by obtain ⟨⟨s0, s1, s2⟩, s3, s4, s5⟩ := hW; go_simp⟩) (HC.out _ KD.out) ?_
      try (simp only [Act.put, List.getElem_toArray, List.getElem_cons_succ, List.getElem_cons_zero, List.setIfInBounds_toArray, List.set_cons_zero, List.set_cons_succ])
      refine wpAnyH_take (i := 4) (v := .slice ya k yc) rfl (by kernel_rfl) (by kernel_rfl) (by kernel_rfl) (fun _ _ _ h => h) (Or.inl ⟨by simp [Region.wanted, yielded], fun W hW => by obtain ⟨⟨s0, s1, s2⟩, s3, s4, s5⟩ := hW; go_simp⟩) (HC.out _ KD.out) ?_
      try (simp only [Act.put, List.getElem_toArray, List.getElem_cons_succ, List.getElem_cons_zero, List.setIfInBounds_toArray, List.set_cons_zero, List.set_cons_succ])
      refine wpAnyH_take (i := 5) (v := .agg #[.string a, .string p, .bool d]) rfl (by kernel_rfl) (by kernel_rfl) (by kernel_rfl) (fun _ _ _ h => h) (Or.inl ⟨by simp [Region.wanted, yielded], fun W hW => by obtain ⟨⟨s0, s1, s2⟩, s3, s4, s5⟩ := hW; go_simp⟩) (HC.out _ KD.out) ?_
      try (simp only [Act.put, List.getElem_toArray, List.getElem_cons_succ, List.getElem_cons_zero, List.setIfInBounds_toArray, List.set_cons_zero, List.set_cons_succ])
      refine wpAnyH_ready (rs := [2, 6]) (by kernel_rfl) (by simp) ?_
      refine AllReadyH.cons (o := _) rfl (fun KK hKK => ?_) (AllReadyH.cons (o := _) rfl (fun KK hKK => ?_) AllReadyH.nil)
      · rw [if_pos (by simp [Region.wanted, yielded])]
        go_simp
        have hk1 := Kept.alloc (fun _ => False) Wd (.cells #[.string a, .string p, .bool d] 35)
        have Z1 := Lib.hid (Zb.new Wd 35 (.string a) (.string p) (.bool d))
        have K1 := Lib.hid (KD.out.trans hk1 (T := LsS (.slice xa k xc) (.slice ya k yc)) (fun _ _ h => h) (fun _ _ h => h.elim))
        have X1 := Lib.hid (OX0.out.kept hk1 (fun _ _ h => h))
        have Y1 := Lib.hid (OY0.out.kept hk1 (fun _ _ h => h))
        refine hKK.out _ _ (HC.out _ K1.out) (fun _ => ?_)
        clear hKK KK
        try (simp only [Act.put, List.getElem_toArray, List.getElem_cons_succ, List.getElem_cons_zero, List.setIfInBounds_toArray, List.set_cons_zero, List.set_cons_succ])
        generalize hg1 : Wd.alloc (.cells #[.string a, .string p, .bool d] 35) = Wx1 at Z1 K1 X1 Y1 ⊢
        clear hk1 hg1
        generalize Wd.heap.size = gb1 at Z1 ⊢
        refine wpAnyH_ready (rs := [3, 6]) (by kernel_rfl) (by simp) ?_
        refine AllReadyH.cons (o := _) rfl (fun KK hKK => ?_) (AllReadyH.cons (o := _) rfl (fun KK hKK => ?_) AllReadyH.nil)
        · refine step_append_perQ (ts := 27) (te := 35) Tryz.underlying27 info_perQ (by simp [Region.wanted, yielded]) _ _ (by rfl) (by rfl) w.heap.size k HLN.out (.slice xa k xc) gb1 ⟨a, p, d⟩ (by rfl) (by rfl) X1.out Z1.out.bx (by have := HAL.out; omega) (by have := K1.out.size; have := KZ.out.size; omega) ?_
          intro a2 c2 w2 ho2 hk2
          have X2 := Lib.hid ho2
          have Y2 := Lib.hid (Y1.out.kept hk2 (fun j hj e => own_neQ (T := 36) (T' := 35) Y1.out X1.out (by decide) hj e))
          have K2 := Lib.hid (K1.out.trans hk2 (T := LsS (.slice xa k xc) (.slice ya k yc)) (fun _ _ h => h) (fun i hi e => Or.inl e))
          clear ho2 hk2
          refine hKK.out _ _ (HC.out _ K2.out) (fun _ => ?_)
          clear hKK KK
          try (simp only [Act.put, List.getElem_toArray, List.getElem_cons_succ, List.getElem_cons_zero, List.setIfInBounds_toArray, List.set_cons_zero, List.set_cons_succ])
          refine wpAnyH_ready (rs := [6]) (by kernel_rfl) (by simp) ?_
          refine AllReadyH.cons (o := _) rfl (fun KK hKK => ?_) AllReadyH.nil
          rw [if_pos (by simp [Region.wanted, yielded])]
          go_simp
          have hk3 := Kept.alloc (fun _ => False) w2 (.cells #[.string a, .string p, .bool d] 36)
          have Z3 := Lib.hid (Zb.new w2 36 (.string a) (.string p) (.bool d))
          have K3 := Lib.hid (K2.out.trans hk3 (T := LsS (.slice xa k xc) (.slice ya k yc)) (fun _ _ h => h) (fun _ _ h => h.elim))
          have X3 := Lib.hid (X2.out.kept hk3 (fun _ _ h => h))
          have Y3 := Lib.hid (Y2.out.kept hk3 (fun _ _ h => h))
          refine hKK.out _ _ (HC.out _ K3.out) (fun _ => ?_)
          clear hKK KK
          try (simp only [Act.put, List.getElem_toArray, List.getElem_cons_succ, List.getElem_cons_zero, List.setIfInBounds_toArray, List.set_cons_zero, List.set_cons_succ])
          generalize hg3 : w2.alloc (.cells #[.string a, .string p, .bool d] 36) = Wx3 at Z3 K3 X3 Y3 ⊢
          clear hk3 hg3
          generalize w2.heap.size = gb3 at Z3 ⊢
          refine wpAnyH_ready (rs := [7]) (by kernel_rfl) (by simp) ?_
          refine AllReadyH.cons (o := _) rfl (fun KK hKK => ?_) AllReadyH.nil
          refine step_append_perQ (ts := 28) (te := 36) Tryz.underlying28 info_perR (by simp [Region.wanted, yielded]) _ _ (by rfl) (by rfl) w.heap.size k HLN.out (.slice ya k yc) gb3 ⟨a, p, d⟩ (by rfl) (by rfl) Y3.out Z3.out.bx (by have := HAL.out; omega) (by have := K3.out.size; have := KZ.out.size; omega) ?_
          intro a4 c4 w4 ho4 hk4
          have Y4 := Lib.hid ho4
          have X4 := Lib.hid (X3.out.kept hk4 (fun j hj e => own_neQ (T := 35) (T' := 36) X3.out Y3.out (by decide) hj e))
          have K4 := Lib.hid (K3.out.trans hk4 (T := LsS (.slice xa k xc) (.slice ya k yc)) (fun _ _ h => h) (fun i hi e => Or.inr e))
          clear ho4 hk4
          refine hKK.out _ _ (HC.out _ K4.out) (fun _ => ?_)
          clear hKK KK
          try (simp only [Act.put, List.getElem_toArray, List.getElem_cons_succ, List.getElem_cons_zero, List.setIfInBounds_toArray, List.set_cons_zero, List.set_cons_succ])
          refine wpAnyH_take (i := 8) (v := .slice a2 (k + 1) c2) rfl (by kernel_rfl) (by kernel_rfl) (by kernel_rfl) (fun _ _ _ h => h) (Or.inl ⟨by simp [Region.wanted, yielded], fun W hW => by obtain ⟨⟨s0, s1, s2⟩, s3, s4, s5⟩ := hW; go_simp⟩) (HC.out _ K4.out) ?_
          try (simp only [Act.put, List.getElem_toArray, List.getElem_cons_succ, List.getElem_cons_zero, List.setIfInBounds_toArray, List.set_cons_zero, List.set_cons_succ])
          refine wpAnyH_take (i := 9) (v := .slice a4 (k + 1) c4) rfl (by kernel_rfl) (by kernel_rfl) (by kernel_rfl) (fun _ _ _ h => h) (Or.inl ⟨by simp [Region.wanted, yielded], fun W hW => by obtain ⟨⟨s0, s1, s2⟩, s3, s4, s5⟩ := hW; go_simp⟩) (HC.out _ K4.out) ?_
          try (simp only [Act.put, List.getElem_toArray, List.getElem_cons_succ, List.getElem_cons_zero, List.setIfInBounds_toArray, List.set_cons_zero, List.set_cons_succ])
          refine wpAnyH_done (by kernel_rfl) ?_ _
          have OX := X4
          have OY := Y4
          have KF := K4
          clear HC
          have HI2 := (⟨by rw [HEQ.out]; exact OX.out, by rw [HEQ.out]; exact OY.out, KZ.out.trans KF.out (T := fun _ => False) (fun _ _ h => h) (fun i hi e => by have := (HLOW.out i e).1; omega)⟩ : LsInv w _ _ _ rs (k + 1))
          have HI3 := Lib.hid HI2
          clear HI2 OX OY KF
          go_wp2_with fail
          go_roundw
          case rel => exact ⟨k + 1, _, _, _, _, by omega, by omega, by go_num, rfl, rfl, HI3⟩
          case measure => simp [intOf]; omega
        · rw [if_pos (by simp [Region.wanted, yielded])]
          go_simp
          have hk5 := Kept.alloc (fun _ => False) Wx1 (.cells #[.string a, .string p, .bool d] 36)
          have Z5 := Lib.hid (Zb.new Wx1 36 (.string a) (.string p) (.bool d))
          have K5 := Lib.hid (K1.out.trans hk5 (T := LsS (.slice xa k xc) (.slice ya k yc)) (fun _ _ h => h) (fun _ _ h => h.elim))
          have X5 := Lib.hid (X1.out.kept hk5 (fun _ _ h => h))
          have Y5 := Lib.hid (Y1.out.kept hk5 (fun _ _ h => h))
          have YX5 := Lib.hid (Zb.kept (S := fun _ => False) Z1.out hk5 (fun h => h))
          refine hKK.out _ _ (HC.out _ K5.out) (fun _ => ?_)
          clear hKK KK
          try (simp only [Act.put, List.getElem_toArray, List.getElem_cons_succ, List.getElem_cons_zero, List.setIfInBounds_toArray, List.set_cons_zero, List.set_cons_succ])
          generalize hg5 : Wx1.alloc (.cells #[.string a, .string p, .bool d] 36) = Wx5 at Z5 K5 X5 Y5 YX5 ⊢
          clear hk5 hg5
          generalize Wx1.heap.size = gb5 at Z5 ⊢
          refine wpAnyH_ready (rs := [3]) (by kernel_rfl) (by simp) ?_
          refine AllReadyH.cons (o := _) rfl (fun KK hKK => ?_) AllReadyH.nil
          refine step_append_perQ (ts := 27) (te := 35) Tryz.underlying27 info_perQ (by simp [Region.wanted, yielded]) _ _ (by rfl) (by rfl) w.heap.size k HLN.out (.slice xa k xc) gb1 ⟨a, p, d⟩ (by rfl) (by rfl) X5.out YX5.out.bx (by have := HAL.out; omega) (by have := K5.out.size; have := KZ.out.size; omega) ?_
          intro a6 c6 w6 ho6 hk6
          have X6 := Lib.hid ho6
          have Y6 := Lib.hid (Y5.out.kept hk6 (fun j hj e => own_neQ (T := 36) (T' := 35) Y5.out X5.out (by decide) hj e))
          have K6 := Lib.hid (K5.out.trans hk6 (T := LsS (.slice xa k xc) (.slice ya k yc)) (fun _ _ h => h) (fun i hi e => Or.inl e))
          have YY6 := Lib.hid (Z5.out.kept hk6 (fun e => zb_neQ (T := 36) (T' := 35) Z5.out X5.out (by decide) e))
          clear ho6 hk6
          refine hKK.out _ _ (HC.out _ K6.out) (fun _ => ?_)
          clear hKK KK
          try (simp only [Act.put, List.getElem_toArray, List.getElem_cons_succ, List.getElem_cons_zero, List.setIfInBounds_toArray, List.set_cons_zero, List.set_cons_succ])
          refine wpAnyH_ready (rs := [7]) (by kernel_rfl) (by simp) ?_
          refine AllReadyH.cons (o := _) rfl (fun KK hKK => ?_) AllReadyH.nil
          refine step_append_perQ (ts := 28) (te := 36) Tryz.underlying28 info_perR (by simp [Region.wanted, yielded]) _ _ (by rfl) (by rfl) w.heap.size k HLN.out (.slice ya k yc) gb5 ⟨a, p, d⟩ (by rfl) (by rfl) Y6.out YY6.out.bx (by have := HAL.out; omega) (by have := K6.out.size; have := KZ.out.size; omega) ?_
          intro a7 c7 w7 ho7 hk7
          have Y7 := Lib.hid ho7
          have X7 := Lib.hid (X6.out.kept hk7 (fun j hj e => own_neQ (T := 35) (T' := 36) X6.out Y6.out (by decide) hj e))
          have K7 := Lib.hid (K6.out.trans hk7 (T := LsS (.slice xa k xc) (.slice ya k yc)) (fun _ _ h => h) (fun i hi e => Or.inr e))
          clear ho7 hk7
          refine hKK.out _ _ (HC.out _ K7.out) (fun _ => ?_)
          clear hKK KK
          try (simp only [Act.put, List.getElem_toArray, List.getElem_cons_succ, List.getElem_cons_zero, List.setIfInBounds_toArray, List.set_cons_zero, List.set_cons_succ])
          refine wpAnyH_take (i := 8) (v := .slice a6 (k + 1) c6) rfl (by kernel_rfl) (by kernel_rfl) (by kernel_rfl) (fun _ _ _ h => h) (Or.inl ⟨by simp [Region.wanted, yielded], fun W hW => by obtain ⟨⟨s0, s1, s2⟩, s3, s4, s5⟩ := hW; go_simp⟩) (HC.out _ K7.out) ?_
          try (simp only [Act.put, List.getElem_toArray, List.getElem_cons_succ, List.getElem_cons_zero, List.setIfInBounds_toArray, List.set_cons_zero, List.set_cons_succ])
          refine wpAnyH_take (i := 9) (v := .slice a7 (k + 1) c7) rfl (by kernel_rfl) (by kernel_rfl) (by kernel_rfl) (fun _ _ _ h => h) (Or.inl ⟨by simp [Region.wanted, yielded], fun W hW => by obtain ⟨⟨s0, s1, s2⟩, s3, s4, s5⟩ := hW; go_simp⟩) (HC.out _ K7.out) ?_
          try (simp only [Act.put, List.getElem_toArray, List.getElem_cons_succ, List.getElem_cons_zero, List.setIfInBounds_toArray, List.set_cons_zero, List.set_cons_succ])
          refine wpAnyH_done (by kernel_rfl) ?_ _
          have OX := X7
          have OY := Y7
          have KF := K7
          clear HC
          have HI2 := (⟨by rw [HEQ.out]; exact OX.out, by rw [HEQ.out]; exact OY.out, KZ.out.trans KF.out (T := fun _ => False) (fun _ _ h => h) (fun i hi e => by have := (HLOW.out i e).1; omega)⟩ : LsInv w _ _ _ rs (k + 1))
          have HI3 := Lib.hid HI2
          clear HI2 OX OY KF
          go_wp2_with fail
          go_roundw
          case rel => exact ⟨k + 1, _, _, _, _, by omega, by omega, by go_num, rfl, rfl, HI3⟩
          case measure => simp [intOf]; omega
      · rw [if_pos (by simp [Region.wanted, yielded])]
        go_simp
        have hk8 := Kept.alloc (fun _ => False) Wd (.cells #[.string a, .string p, .bool d] 36)
        have Z8 := Lib.hid (Zb.new Wd 36 (.string a) (.string p) (.bool d))
        have K8 := Lib.hid (KD.out.trans hk8 (T := LsS (.slice xa k xc) (.slice ya k yc)) (fun _ _ h => h) (fun _ _ h => h.elim))
        have X8 := Lib.hid (OX0.out.kept hk8 (fun _ _ h => h))
        have Y8 := Lib.hid (OY0.out.kept hk8 (fun _ _ h => h))
        refine hKK.out _ _ (HC.out _ K8.out) (fun _ => ?_)
        clear hKK KK
        try (simp only [Act.put, List.getElem_toArray, List.getElem_cons_succ, List.getElem_cons_zero, List.setIfInBounds_toArray, List.set_cons_zero, List.set_cons_succ])
        generalize hg8 : Wd.alloc (.cells #[.string a, .string p, .bool d] 36) = Wx8 at Z8 K8 X8 Y8 ⊢
        clear hk8 hg8
        generalize Wd.heap.size = gb8 at Z8 ⊢
        refine wpAnyH_ready (rs := [2]) (by kernel_rfl) (by simp) ?_
        refine AllReadyH.cons (o := _) rfl (fun KK hKK => ?_) AllReadyH.nil
        rw [if_pos (by simp [Region.wanted, yielded])]
        go_simp
        have hk9 := Kept.alloc (fun _ => False) Wx8 (.cells #[.string a, .string p, .bool d] 35)
        have Z9 := Lib.hid (Zb.new Wx8 35 (.string a) (.string p) (.bool d))
        have K9 := Lib.hid (K8.out.trans hk9 (T := LsS (.slice xa k xc) (.slice ya k yc)) (fun _ _ h => h) (fun _ _ h => h.elim))
        have X9 := Lib.hid (X8.out.kept hk9 (fun _ _ h => h))
        have Y9 := Lib.hid (Y8.out.kept hk9 (fun _ _ h => h))
        have YY9 := Lib.hid (Zb.kept (S := fun _ => False) Z8.out hk9 (fun h => h))
        refine hKK.out _ _ (HC.out _ K9.out) (fun _ => ?_)
        clear hKK KK
        try (simp only [Act.put, List.getElem_toArray, List.getElem_cons_succ, List.getElem_cons_zero, List.setIfInBounds_toArray, List.set_cons_zero, List.set_cons_succ])
        generalize hg9 : Wx8.alloc (.cells #[.string a, .string p, .bool d] 35) = Wx9 at Z9 K9 X9 Y9 YY9 ⊢
        clear hk9 hg9
        generalize Wx8.heap.size = gb9 at Z9 ⊢
        refine wpAnyH_ready (rs := [3]) (by kernel_rfl) (by simp) ?_
        refine AllReadyH.cons (o := _) rfl (fun KK hKK => ?_) AllReadyH.nil
        refine step_append_perQ (ts := 27) (te := 35) Tryz.underlying27 info_perQ (by simp [Region.wanted, yielded]) _ _ (by rfl) (by rfl) w.heap.size k HLN.out (.slice xa k xc) gb9 ⟨a, p, d⟩ (by rfl) (by rfl) X9.out Z9.out.bx (by have := HAL.out; omega) (by have := K9.out.size; have := KZ.out.size; omega) ?_
        intro a10 c10 w10 ho10 hk10
        have X10 := Lib.hid ho10
        have Y10 := Lib.hid (Y9.out.kept hk10 (fun j hj e => own_neQ (T := 36) (T' := 35) Y9.out X9.out (by decide) hj e))
        have K10 := Lib.hid (K9.out.trans hk10 (T := LsS (.slice xa k xc) (.slice ya k yc)) (fun _ _ h => h) (fun i hi e => Or.inl e))
        have YY10 := Lib.hid (YY9.out.kept hk10 (fun e => zb_neQ (T := 36) (T' := 35) YY9.out X9.out (by decide) e))
        clear ho10 hk10
        refine hKK.out _ _ (HC.out _ K10.out) (fun _ => ?_)
        clear hKK KK
        try (simp only [Act.put, List.getElem_toArray, List.getElem_cons_succ, List.getElem_cons_zero, List.setIfInBounds_toArray, List.set_cons_zero, List.set_cons_succ])
        refine wpAnyH_ready (rs := [7]) (by kernel_rfl) (by simp) ?_
        refine AllReadyH.cons (o := _) rfl (fun KK hKK => ?_) AllReadyH.nil
        refine step_append_perQ (ts := 28) (te := 36) Tryz.underlying28 info_perR (by simp [Region.wanted, yielded]) _ _ (by rfl) (by rfl) w.heap.size k HLN.out (.slice ya k yc) gb8 ⟨a, p, d⟩ (by rfl) (by rfl) Y10.out YY10.out.bx (by have := HAL.out; omega) (by have := K10.out.size; have := KZ.out.size; omega) ?_
        intro a11 c11 w11 ho11 hk11
        have Y11 := Lib.hid ho11
        have X11 := Lib.hid (X10.out.kept hk11 (fun j hj e => own_neQ (T := 35) (T' := 36) X10.out Y10.out (by decide) hj e))
        have K11 := Lib.hid (K10.out.trans hk11 (T := LsS (.slice xa k xc) (.slice ya k yc)) (fun _ _ h => h) (fun i hi e => Or.inr e))
        clear ho11 hk11
        refine hKK.out _ _ (HC.out _ K11.out) (fun _ => ?_)
        clear hKK KK
        try (simp only [Act.put, List.getElem_toArray, List.getElem_cons_succ, List.getElem_cons_zero, List.setIfInBounds_toArray, List.set_cons_zero, List.set_cons_succ])
        refine wpAnyH_take (i := 8) (v := .slice a10 (k + 1) c10) rfl (by kernel_rfl) (by kernel_rfl) (by kernel_rfl) (fun _ _ _ h => h) (Or.inl ⟨by simp [Region.wanted, yielded], fun W hW => by obtain ⟨⟨s0, s1, s2⟩, s3, s4, s5⟩ := hW; go_simp⟩) (HC.out _ K11.out) ?_
        try (simp only [Act.put, List.getElem_toArray, List.getElem_cons_succ, List.getElem_cons_zero, List.setIfInBounds_toArray, List.set_cons_zero, List.set_cons_succ])
        refine wpAnyH_take (i := 9) (v := .slice a11 (k + 1) c11) rfl (by kernel_rfl) (by kernel_rfl) (by kernel_rfl) (fun _ _ _ h => h) (Or.inl ⟨by simp [Region.wanted, yielded], fun W hW => by obtain ⟨⟨s0, s1, s2⟩, s3, s4, s5⟩ := hW; go_simp⟩) (HC.out _ K11.out) ?_
        try (simp only [Act.put, List.getElem_toArray, List.getElem_cons_succ, List.getElem_cons_zero, List.setIfInBounds_toArray, List.set_cons_zero, List.set_cons_succ])
        refine wpAnyH_done (by kernel_rfl) ?_ _
        have OX := X11
        have OY := Y11
        have KF := K11
        clear HC
        have HI2 := (⟨by rw [HEQ.out]; exact OX.out, by rw [HEQ.out]; exact OY.out, KZ.out.trans KF.out (T := fun _ => False) (fun _ _ h => h) (fun i hi e => by have := (HLOW.out i e).1; omega)⟩ : LsInv w _ _ _ rs (k + 1))
        have HI3 := Lib.hid HI2
        clear HI2 OX OY KF
        go_wp2_with fail
        go_roundw
        case rel => exact ⟨k + 1, _, _, _, _, by omega, by omega, by go_num, rfl, rfl, HI3⟩
        case measure => simp [intOf]; omega
    · have htk : (rs.take k).map RawP.per = (rs.take 8).map RawP.per := by
        by_cases h1 : k < N
        · obtain rfl : k = 8 := by omega
          rfl
        · have hl := HN.out
          rw [List.take_of_length_le (by omega), List.take_of_length_le (by omega)]
      have hx := hI.out.x
      have hy := hI.out.y
      rw [htk, ← HRR.out] at hx hy
      obtain rfl : L = k := by rw [HLL.out, HRR.out, ← htk, List.length_map, List.length_take]; have := HN.out; omega
      have HX := Lib.hid hx; have HY := Lib.hid hy; have HKW := Lib.hid hI.out.kept
      clear hx hy hI htk HLL HRR
      by_cases h1 : L < N
      · have h8 : L = 8 := by omega
        subst h8
        have l1 : ((8 : Nat) : Int) < (N : Int) := by omega
        clear hlt
        go_wp2_with fail
        go_ret2
        exact ⟨_, _, _, _, rfl, HX.out, HY.out, HKW.out⟩
      · have l1 : ¬ (L : Int) < (N : Int) := by omega
        clear hlt
        go_wp2_with fail
        go_ret2
        exact ⟨_, _, _, _, rfl, HX.out, HY.out, HKW.out⟩
end Go.Proofs.YtnnakllgfaaejaaGreatDoor
/-
  Permissions: what a set implies; what of a list another one implies.
-/
namespace Go.Proofs.YtnnakllgfaaejaaGreatDoor
open Go.RowKit Go.Maps Go.WideMaps Go.ChangeMaps
set_option linter.unusedSimpArgs false
set_option linter.unusedVariables false
set_option maxRecDepth 100000

set_option maxHeartbeats 3200000 in
theorem simplies_any (w : World) (m n : Nat) (D : DataW Unit) (l : List Per) (x : Per) (h : OwnMQ w m n D) (hM : MapQ D (memP l)) (hxa : x.a.size ≤ 1000000) (hxp : x.p.size ≤ 100000) :
    Calls Tryz.prog 35 #[.map (some m), perV x] w fun e w' => e = .returned (.bool (anyI l x)) ∧ Kept (fun _ => False) w w' := by
  have HC := Lib.hid (fun W => pok_any x (by omega) W)
  have hsm : smallQ x := ⟨by unfold maxLen; omega, by unfold maxLen; omega⟩
  have HLK := Lib.hid (fun W (hk : Kept (fun _ => False) w W) => map_lookQ (ownMQ_kept h hk (fun h => h)) hM x hsm)
  have HE := Lib.hid (fun W (hk : Kept (fun _ => False) w W) => exceeds_any W m n D (memP l) x (ownMQ_kept h hk (fun h => h)) hM hxa hxp)
  obtain ⟨V, hV⟩ : ∃ V, V = anyI l x := ⟨_, rfl⟩
  have hv : V = (okP x && (memP l x || askP (memP l) x)) := by
    rw [hV]
    cases ho : okP x with
    | false => rw [anyI_bad ho]; rfl
    | true => rw [anyI_exc ho, ask_exc ho, Bool.true_and]; unfold memP; rw [ho, Bool.and_true]
  rw [← hV]
  obtain ⟨a, p, d⟩ := x
  unfold perV at *
  simp only at HC HLK HE
  generalize memP l ⟨a, p, d⟩ = MP at *
  generalize askP (memP l) ⟨a, p, d⟩ = EP at *
  generalize okP ⟨a, p, d⟩ = O at *
  have HB := Lib.hid (Bx.new w a p d 35)
  have HK := Lib.hid (Kept.alloc (fun _ => False) w (.cells #[.string a, .string p, .bool d] 35))
  have HV := Lib.hid hv
  clear h hM hxa hxp hsm hV hv
  go_enter Tryz.func35, Tryz.ntmps35
  go_wp2_with fail
  refine (HC.out _).mono ?_
  generalize w.alloc (.cells #[.string a, .string p, .bool d] 35) = W1 at *
  generalize w.heap.size = Q at *
  rintro e w2 ⟨rfl, k2⟩
  obtain ⟨c0, c1, c2⟩ := HB.out.stay k2
  have K2 := Lib.hid (HK.out.then k2)
  clear k2 HB HK HC
  cases O with
  | false =>
    have hv : V = false := by rw [HV.out]; rfl
    subst hv
    clear HV HLK HE
    go_wp2_with fail
    go_ret
    exact ⟨rfl, K2.out⟩
  | true =>
    have HL := Lib.hid (HLK.out w2 K2.out)
    clear HLK
    cases MP with
    | true =>
      have hv : V = true := by rw [HV.out]; rfl
      subst hv
      clear HV HE
      go_wp2_with (first
        | (at_lookup; refine wpList_lookup_run (by rfl) _ _ _ rfl _ _ rfl rfl HL.out ?_)
        | fail)
      go_ret
      exact ⟨rfl, K2.out⟩
    | false =>
      have hv : V = EP := by rw [HV.out]; rfl
      subst hv
      clear HV
      go_wp2_with (first
        | (at_lookup; refine wpList_lookup_run (by rfl) _ _ _ rfl _ _ rfl rfl HL.out ?_)
        | fail)
      refine (HE.out _ K2.out).mono ?_
      rintro e w3 ⟨rfl, k3⟩
      have K3 := Lib.hid (K2.out.then k3)
      clear k3
      go_wp2_with fail
      go_ret
      exact ⟨rfl, K3.out⟩
end Go.Proofs.YtnnakllgfaaejaaGreatDoor
/-
  Permissions: what of a list another one implies; Common.
-/
namespace Go.Proofs.YtnnakllgfaaejaaGreatDoor
open Go.RowKit Go.Maps Go.WideMaps Go.ChangeMaps
set_option linter.unusedSimpArgs false
set_option linter.unusedVariables false
set_option maxRecDepth 100000

/-- What stands after k rounds. -/
structure IpInv (w wr : World) (v : Value) (acc : List Per) (f : Per → Bool) (l : List Per) (k : Nat) : Prop where
  row : OwnQ 35 w.heap.size wr v acc
  eq : acc = (l.take k).filter f
  kept : Kept (fun _ => False) w wr
theorem filter_next {l : List Per} {k : Nat} (f : Per → Bool) (h : k < l.length) : (l.take (k + 1)).filter f = if f (l.getD k per0) then (l.take k).filter f ++ [l.getD k per0] else (l.take k).filter f := by
  rw [take_one l k h, List.filter_append]
  cases hf : f (l.getD k per0) with
  | true => rw [List.filter_cons_of_pos hf]; rfl
  | false => rw [List.filter_cons_of_neg (by rw [hf]; decide)]; simp

set_option maxHeartbeats 3200000 in
theorem implied_any (w0 : World) (v u : Value) (l bl : List Per) (h : Pers w0 v l) (hu : Pers w0 u bl) (hb : bdQ l) (hbb : bdQ bl) (hl : l.length ≤ 50000) (hbl : bl.length ≤ 50000) :
    Calls Tryz.prog 36 #[v, u] w0 fun e w' => ∃ a c, e = .returned (.slice a (l.filter (anyI bl)).length c) ∧ OwnQ 35 w0.heap.size w' (.slice a (l.filter (anyI bl)).length c) (l.filter (anyI bl)) ∧ Kept (fun _ => False) w0 w' := by
  obtain ⟨la, lc, rfl, h1, h2⟩ := h.form
  have HSO := Lib.hid (setOf_any w0 u bl hu hbb (by omega))
  have HV := Lib.hid h; have HBD := Lib.hid hb
  obtain ⟨N, hN⟩ : ∃ N, N = l.length := ⟨_, rfl⟩
  rw [← hN] at HV hl h1 ⊢
  have HN := Lib.hid hN
  unfold maxLen at h2
  clear h hu hb hbb hbl hN
  go_enter Tryz.func36, Tryz.ntmps36
  go_wp2_with fail
  refine HSO.out.mono ?_
  rintro e w ⟨m, n, D, rfl, m1, m2, m3, m4, k0⟩
  have M1 := Lib.hid m1; have M2 := Lib.hid m2; have K0 := Lib.hid k0
  have HI0 : Hid (IpInv w w (.slice none 0 0) [] (anyI bl) l 0) := Lib.hid ⟨OwnQ.nil _ _ _, by simp, Kept.refl _ _⟩
  clear m1 m2 m3 m4 k0 HSO
  go_wp2_with fail
  go_loopw [6, 8, 13] (fun ov _ iv wr => ∃ (k : Nat) (a : Option Addr) (c : Nat) (acc : List Per), k ≤ N ∧ iv = .int .i64 (k : Int) ∧ ov = .slice a acc.length c ∧ Hid (IpInv w wr (.slice a acc.length c) acc (anyI bl) l k)) (fun _ _ iv _ => N - (intOf iv).toNat)
  case atStart => exact ⟨0, none, 0, [], Nat.zero_le _, rfl, rfl, HI0⟩
  case round =>
    obtain ⟨k, a, c, acc, hk, rfl, rfl, hI⟩ := hrel
    clear HI0
    by_cases hlt : k < N
    · have l1 : (k : Int) < (N : Int) := by omega
      have l0 : (0 : Int) ≤ (k : Int) := by omega
      have hkl : k < l.length := by have := HN.out; omega
      obtain ⟨g, off, rfl, hg, hc⟩ := (HV.out.kept (K0.out.then hI.out.kept) (fun _ _ h => h)).at (k := k) hkl
      have hbx := HBD.out _ (getD_mem l k hkl)
      have hnx := filter_next (anyI bl) hkl
      have hal : acc.length ≤ 50000 := by
        have h9 := hI.out.eq
        have h8 := List.length_filter_le (anyI bl) (l.take k)
        rw [← h9, List.length_take] at h8
        omega
      rw [← hI.out.eq] at hnx
      generalize l.getD k per0 = x at hc hbx hnx
      have HE := Lib.hid (fun W (hk : Kept (fun _ => False) w W) => simplies_any W m n D bl x (ownMQ_kept M1.out hk (fun h => h)) M2.out hbx.1 hbx.2)
      obtain ⟨xa, xp, xd⟩ := x
      unfold perV at HE
      obtain ⟨c0, c1, c2⟩ := hc
      simp only at c0 c1 c2 HE
      generalize anyI bl ⟨xa, xp, xd⟩ = V at hnx HE
      have HNX := Lib.hid hnx
      have HBX := Lib.hid (Bx.new wr xa xp xd 35)
      have hka : Kept (fun _ => False) wr (wr.alloc (.cells #[.string xa, .string xp, .bool xd] 35)) := Kept.alloc _ _ _
      have HROW := Lib.hid (hI.out.row.kept hka (fun _ _ h => h))
      have HKW := Lib.hid (hI.out.kept.then hka)
      have HEQ := Lib.hid hI.out.eq
      clear hnx hbx hg hka hI
      go_wp2_with fail
      refine (HE.out _ HKW.out).mono ?_
      clear c0 c1 c2
      generalize wr.alloc (.cells #[.string xa, .string xp, .bool xd] 35) = W1 at *
      generalize wr.heap.size = Q at *
      rintro e w3 ⟨rfl, k3⟩
      obtain ⟨c0, c1, c2⟩ := HBX.out.stay k3
      have HKW3 := Lib.hid (HKW.out.then k3)
      have HROW3 := Lib.hid (HROW.out.kept k3 (fun _ _ h => h))
      clear k3 HE HBX HKW HROW
      have hsz3 := HKW3.out.size
      cases V with
      | false =>
        have hI2 : Hid (IpInv w w3 (.slice a acc.length c) acc (anyI bl) l (k + 1)) := Lib.hid ⟨HROW3.out, by rw [HNX.out]; rfl, HKW3.out⟩
        go_wp2_with fail
        go_roundw
        case rel => exact ⟨k + 1, a, c, acc, by omega, by go_num, rfl, hI2⟩
        case measure => simp [intOf]; omega
      | true =>
        go_wp2_with (first
          | (at_builtin; refine wpList_pushQ Tryz.underlying27 info_perQ (by rfl) _ _ rfl rfl w.heap.size _ acc w3.heap.size ⟨xa, xp, xd⟩ rfl rfl (HROW3.out.alloc _) (Bx.new w3 xa xp xd 35) (by omega) (by simp; omega) ?_; intro a' c' w4 hown4 hk4; have HOWN4 := Lib.hid hown4; have HKK4 := Lib.hid hk4; clear hown4 hk4)
          | fail)
        have hka : Kept (fun _ => False) w3 (w3.alloc (.cells #[.string xa, .string xp, .bool xd] 35)) := Kept.alloc _ _ _
        have hI2 : Hid (IpInv w w4 (.slice a' (acc ++ [Per.mk xa xp xd]).length c') (acc ++ [⟨xa, xp, xd⟩]) (anyI bl) l (k + 1)) :=
          Lib.hid ⟨by rw [List.length_append]; exact HOWN4.out, by rw [HNX.out]; rfl, (HKW3.out.then hka).trans HKK4.out (fun _ _ h => h) (fun i hi e => by have := (HROW3.out.lt i e).1; omega)⟩
        clear hka
        go_roundw
        case rel => exact ⟨k + 1, a', c', acc ++ [Per.mk xa xp xd], by omega, by go_num, by rw [List.length_append]; rfl, hI2⟩
        case measure => simp [intOf]; omega
    · obtain rfl : k = N := by omega
      have hq : acc = l.filter (anyI bl) := by
        have := hI.out.eq
        rw [HN.out, List.take_length] at this
        exact this
      subst hq
      have HR := Lib.hid (hI.out.row.low K0.out.size)
      have HK := Lib.hid (K0.out.then hI.out.kept)
      clear hI
      go_wp2_with fail
      go_ret
      exact ⟨_, _, rfl, HR.out, HK.out⟩
end Go.Proofs.YtnnakllgfaaejaaGreatDoor
/-
  The reference of names: Valid, Keywords, Word (NamR over NamU alone; never beside NamR).
-/
namespace Go.Proofs.YtnnakllgfaaejaaGreatDoor
open Go.RowKit

set_option maxRecDepth 100000 in
theorem rkeywords_any (w : World) : Calls Tryz.prog 68 #[] w fun e w' => e = .returned (.slice (some ⟨w.heap.size, 0, none⟩) 20 20) ∧ Strs w' (.slice (some ⟨w.heap.size, 0, none⟩) 20 20) kwdL ∧ Kept (fun _ => False) w w' := by
  have hs := strs_new w (kwdL.map Value.string).toArray 9 20 kwdL rfl rfl (by unfold maxLen; omega)
  have hk := Kept.alloc (fun _ => False) w (.cells (kwdL.map Value.string).toArray 9)
  have HS := Lib.hid hs; have HK := Lib.hid hk
  clear hs hk
  go_enter Tryz.func68, Tryz.ntmps68
  go_wp2_with fail
  go_ret
  exact ⟨rfl, HS.out, HK.out⟩

set_option maxRecDepth 100000 in
set_option maxHeartbeats 3200000 in
theorem rvalid_any (s : ByteArray) (w : World) : Calls Tryz.prog 45 #[.string s] w fun e w' => e = .returned (.bool (validS s)) ∧ Kept (fun _ => False) w w' := by
  obtain ⟨V, hV⟩ : ∃ V, V = validS s := ⟨_, rfl⟩
  rw [← hV]
  have HV := Lib.hid hV
  clear hV
  have hAt := bat_at s
  have HAT := Lib.hid hAt
  clear hAt
  by_cases h0 : s.size = 0
  · have hv : V = false := by rw [HV.out]; exact validS_bad (Or.inl h0)
    subst hv
    go_enter Tryz.func45, Tryz.ntmps45
    go_wp2_with fail
    go_ret
    exact ⟨rfl, Kept.refl _ _⟩
  by_cases h12 : 12 < s.size
  · have h12i : (12 : Int) < (s.size : Int) := by omega
    have h0i : ¬ (s.size : Int) = 0 := by omega
    have hv : V = false := by rw [HV.out]; exact validS_bad (Or.inr (Or.inl h12))
    subst hv
    go_enter Tryz.func45, Tryz.ntmps45
    go_wp2_with fail
    go_ret
    exact ⟨rfl, Kept.refl _ _⟩
  have h12i : ¬ (12 : Int) < (s.size : Int) := by omega
  have h0i : ¬ (s.size : Int) = 0 := by omega
  have hsz : s.size ≤ 12 := by omega
  have hs0 : s.size ≠ 0 := h0
  have HS0 := Lib.hid hs0
  clear h12 hs0
  go_enter Tryz.func45, Tryz.ntmps45
  go_wp2_with fail
  clear h12i h0i h0
  go_loop [3] (fun iv => ∃ k : Nat, k ≤ s.size ∧ iv = .int .i64 k ∧ Hid (∀ j, j < k → chrB (bat s j) j = true)) (fun iv => s.size - (intOf iv).toNat)
  case atStart => exact ⟨0, by omega, rfl, fun j hj => by omega⟩
  case round =>
    obtain ⟨k, hk, rfl, hgo⟩ := hrel
    by_cases hlt : k < s.size
    · have l1 : (k : Int) < (s.size : Int) := by omega
      have l0 : (0 : Int) ≤ (k : Int) := by omega
      have ek := HAT.out k
      obtain ⟨c, hc⟩ : ∃ c, c = bat s k := ⟨_, rfl⟩
      rw [← hc] at ek
      have HC := Lib.hid hc
      clear hc
      have hbad : chrB c k = false → V = false := fun h => by rw [HV.out]; exact validS_bad (Or.inr (Or.inr ⟨k, hlt, by rw [← HC.out]; exact h⟩))
      have hnext : chrB c k = true → Hid (∀ j, j < k + 1 → chrB (bat s j) j = true) := fun h j hj => by
        by_cases e : j < k
        · exact hgo.out j e
        · obtain rfl : j = k := by omega
          rw [← HC.out]; exact h
      have hcase : (chrB c k = true ∧ (((97 : Int) ≤ c ∧ (c : Int) ≤ 122) ∨ (¬ ((97 : Int) ≤ c ∧ (c : Int) ≤ 122) ∧ ¬ (k : Int) = 0 ∧ (((48 : Int) ≤ c ∧ (c : Int) ≤ 57) ∨ (c : Int) = 95)))) ∨
          (chrB c k = false ∧ (¬ ((97 : Int) ≤ c ∧ (c : Int) ≤ 122)) ∧ ((k : Int) = 0 ∨ (¬ (k : Int) = 0 ∧ ¬ ((48 : Int) ≤ c ∧ (c : Int) ≤ 57) ∧ ¬ (c : Int) = 95))) := by
        by_cases hl : 97 ≤ c ∧ c ≤ 122
        · exact Or.inl ⟨by simp [chrB, letB, hl.1, hl.2], Or.inl (by omega)⟩
        · have hlf : letB c = false := by
            unfold letB
            rw [Bool.and_eq_false_iff, decide_eq_false_iff_not, decide_eq_false_iff_not]; omega
          by_cases hk0 : k = 0
          · exact Or.inr ⟨by rw [hk0]; simp [chrB, hlf], by omega, Or.inl (by omega)⟩
          · by_cases hd : (48 ≤ c ∧ c ≤ 57) ∨ c = 95
            · refine Or.inl ⟨?_, Or.inr ⟨by omega, by omega, by omega⟩⟩
              rcases hd with hd | hd
              · simp [chrB, hk0, digB, hd.1, hd.2]
              · simp [chrB, hk0, hd]
            · refine Or.inr ⟨?_, by omega, Or.inr ⟨by omega, by omega, by omega⟩⟩
              have hdf : digB c = false := by
                unfold digB
                rw [Bool.and_eq_false_iff, decide_eq_false_iff_not, decide_eq_false_iff_not]; omega
              have h95 : ¬ c = 95 := by omega
              simp [chrB, hlf, hdf, h95]
      have HBAD := Lib.hid hbad; have HNX := Lib.hid hnext
      clear hbad hnext hgo
      rcases hcase with ⟨hch, hcs⟩ | ⟨hch, hnl, hcs⟩
      · have hn := HNX.out hch
        clear hch
        have hd : ((97 : Int) ≤ c ∧ (c : Int) ≤ 122) ∨ (¬ (97 : Int) ≤ c ∧ ¬ k = 0 ∧ (48 : Int) ≤ c ∧ (c : Int) ≤ 57) ∨ (¬ (97 : Int) ≤ c ∧ ¬ k = 0 ∧ (48 : Int) ≤ c ∧ ¬ (c : Int) ≤ 57 ∧ (c : Int) = 95) := by omega
        clear hcs
        rcases hd with ⟨d1, d2⟩ | ⟨d1, d2, d3, d4⟩ | ⟨d1, d2, d3, d4, d5⟩
        all_goals
          go_wp2_with fail
          go_round
          case rel => exact ⟨k + 1, by omega, by go_num, hn⟩
          case measure => simp [intOf]; omega
      · have hv := HBAD.out hch
        subst hv
        clear hch
        have hd : (¬ (97 : Int) ≤ c ∧ k = 0 ∧ ¬ (48 : Int) ≤ c ∧ ¬ (c : Int) = 95) ∨ (¬ (97 : Int) ≤ c ∧ k = 0 ∧ (48 : Int) ≤ c ∧ (c : Int) ≤ 57) ∨ (¬ (97 : Int) ≤ c ∧ k = 0 ∧ (48 : Int) ≤ c ∧ ¬ (c : Int) ≤ 57 ∧ (c : Int) = 95) ∨ (¬ (97 : Int) ≤ c ∧ k = 0 ∧ (48 : Int) ≤ c ∧ ¬ (c : Int) ≤ 57 ∧ ¬ (c : Int) = 95) ∨
            ((97 : Int) ≤ c ∧ ¬ (c : Int) ≤ 122 ∧ k = 0 ∧ (48 : Int) ≤ c ∧ ¬ (c : Int) ≤ 57 ∧ ¬ (c : Int) = 95) ∨
            (¬ (97 : Int) ≤ c ∧ ¬ k = 0 ∧ ¬ (48 : Int) ≤ c ∧ ¬ (c : Int) = 95) ∨ (¬ (97 : Int) ≤ c ∧ ¬ k = 0 ∧ (48 : Int) ≤ c ∧ ¬ (c : Int) ≤ 57 ∧ ¬ (c : Int) = 95) ∨ ((97 : Int) ≤ c ∧ ¬ (c : Int) ≤ 122 ∧ ¬ k = 0 ∧ (48 : Int) ≤ c ∧ ¬ (c : Int) ≤ 57 ∧ ¬ (c : Int) = 95) := by omega
        clear hcs hnl
        rcases hd with ⟨d1, rfl, d3, d4⟩ | ⟨d1, rfl, d3, d4⟩ | ⟨d1, rfl, d3, d4, d5⟩ | ⟨d1, rfl, d3, d4, d5⟩ | ⟨d1, d2, rfl, d4, d5, d6⟩ | ⟨d1, d2, d3, d4⟩ | ⟨d1, d2, d3, d4, d5⟩ | ⟨d1, d2, d3, d4, d5, d6⟩
        all_goals
          go_wp2_with fail
          all_goals first
            | (go_ret; exact ⟨rfl, Kept.refl _ _⟩)
            | (exfalso; rename_i hx; have h2 := hx.2; simp at h2; omega)
    · obtain rfl : k = s.size := by omega
      have hv : V = !(memS s kwdL) := by rw [HV.out]; exact validS_good HS0.out hsz hgo.out
      have hm := memS_iff s kwdL
      have HV2 := Lib.hid hv; have HM := Lib.hid hm
      clear hv hgo hm
      go_wp2_with fail
      refine (rkeywords_any w).mono ?_
      rintro e w1 ⟨rfl, hs1, hk1⟩
      have HS1 := Lib.hid hs1; have HK1 := Lib.hid hk1
      clear hs1 hk1
      go_wp2_with fail
      go_loop [60] (fun iv => ∃ k : Nat, k ≤ 20 ∧ iv = .int .i64 k ∧ Hid (∀ j, j < k → kwdL.getD j ⟨#[]⟩ ≠ s)) (fun iv => 20 - (intOf iv).toNat)
      case atStart => exact ⟨0, by omega, rfl, fun j hj => by omega⟩
      case round =>
        obtain ⟨k, hk, rfl, hno⟩ := hrel
        have hkl : kwdL.length = 20 := rfl
        by_cases hlt : k < 20
        · have l1 : (k : Int) < 20 := by omega
          have l0 : (0 : Int) ≤ (k : Int) := by omega
          obtain ⟨g, off, hgo, _, hcell⟩ := HS1.out.at (k := k) (by rw [hkl]; exact hlt)
          cases hgo
          obtain ⟨x, hx⟩ : ∃ x, x = kwdL.getD k ⟨#[]⟩ := ⟨_, rfl⟩
          rw [← hx, Nat.zero_add] at hcell
          have HX := Lib.hid hx
          clear hx
          by_cases he : x = s
          · have hb : (x.toList == s.toList) = true := by rw [str_eq]; simp [he]
            have hm : memS s kwdL = true := HM.out.2 (by
              rw [← he, HX.out]
              have hk2 : k < kwdL.length := by rw [hkl]; exact hlt
              simp [List.getD, hk2])
            have hvf : V = false := by rw [HV2.out, hm]; rfl
            clear hm he hkl
            subst hvf
            go_wp2_with fail
            go_ret
            exact ⟨rfl, HK1.out⟩
          · have hb : (x.toList == s.toList) = false := by rw [str_eq]; simp [he]
            have hno2 : Hid (∀ j, j < k + 1 → kwdL.getD j ⟨#[]⟩ ≠ s) := fun j hj => by
              by_cases e : j < k
              · exact hno.out j e
              · obtain rfl : j = k := by omega
                rw [← HX.out]; exact he
            clear he hkl
            go_wp2_with fail
            go_round
            case rel => exact ⟨k + 1, by omega, by go_num, hno2⟩
            case measure => simp [intOf]; omega
        · obtain rfl : k = 20 := by omega
          have hm : memS s kwdL = false := by
            cases hmm : memS s kwdL with
            | false => rfl
            | true =>
              obtain ⟨i, hi, e⟩ := List.getElem_of_mem (HM.out.1 hmm)
              exact absurd (by simp [List.getD, hi, e]) (hno.out i (by rw [← hkl]; exact hi))
          have hvt : V = true := by rw [HV2.out, hm]; rfl
          clear hm hkl
          subst hvt
          go_wp2_with fail
          go_ret
          exact ⟨rfl, HK1.out⟩

/-- The texts that numbers stand for. -/
def wordL : List ByteArray := [⟨#[99, 108, 101, 114, 107]⟩, ⟨#[97, 117, 100, 105, 116, 111, 114]⟩, ⟨#[116, 101, 108, 108, 101, 114]⟩, ⟨#[104, 114]⟩, ⟨#[97]⟩, ⟨#[98]⟩, ⟨#[99, 50]⟩, ⟨#[120, 95, 49]⟩, ⟨#[99, 104, 105, 101, 102]⟩, ⟨#[110, 117, 114, 115, 101]⟩, ⟨#[97, 98, 99, 100, 101, 102, 103, 104, 105, 106, 107, 108]⟩, ⟨#[97, 98, 99, 100, 101, 102, 103, 104, 105, 106, 107, 108, 109]⟩, ⟨#[]⟩, ⟨#[65]⟩, ⟨#[50, 110, 100]⟩, ⟨#[95, 120]⟩, ⟨#[97, 45, 98]⟩, ⟨#[98, 121]⟩, ⟨#[117, 115, 101, 114, 115]⟩, ⟨#[97, 110, 100]⟩]
theorem wordL_short : ∀ x ∈ wordL, x.size ≤ 13 := by decide +kernel

end Go.Proofs.YtnnakllgfaaejaaGreatDoor
/-
  The reference of permissions: Within, Check, Covers.
-/
namespace Go.Proofs.YtnnakllgfaaejaaGreatDoor
open Go.RowKit
set_option linter.unusedSimpArgs false
set_option linter.unusedVariables false

theorem rsplit_names {w w' : World} {s : ByteArray} {v : Value} {l : List ByteArray} (h : RSplit w w' s v) (hn : namesS s = some l) : Strs w' v l := by
  obtain ⟨xs, h1, _, h2⟩ := h.row
  rw [h2 l hn] at h1
  exact h1
theorem rsplit_form {w w' : World} {s : ByteArray} {v : Value} (h : RSplit w w' s v) : ∃ a n c, v = .slice a n c := by
  obtain ⟨xs, h1, _, h2⟩ := h.row
  obtain ⟨a, c, rfl, _⟩ := h1.form
  exact ⟨a, _, c, rfl⟩

theorem prefix_at {a b : List ByteArray} (hl : b.length ≤ a.length) : b <+: a ↔ ∀ i, i < b.length → b.getD i ⟨#[]⟩ = a.getD i ⟨#[]⟩ := by
  rw [List.prefix_iff_eq_take]
  constructor
  · intro h i hi
    have : b[i]? = (a.take b.length)[i]? := by rw [← h]
    rw [List.getElem?_take_of_lt hi] at this
    rw [List.getD_eq_getElem?_getD, List.getD_eq_getElem?_getD, this]
  · intro h
    apply List.ext_getElem?
    intro i
    by_cases hi : i < b.length
    · have := h i hi
      rw [List.getElem?_take_of_lt hi, List.getElem?_eq_getElem hi, List.getElem?_eq_getElem (by omega)]
      rw [List.getD_eq_getElem?_getD, List.getD_eq_getElem?_getD, List.getElem?_eq_getElem hi, List.getElem?_eq_getElem (by omega)] at this
      exact congrArg some this
    · rw [List.getElem?_eq_none (by omega), List.getElem?_eq_none (by rw [List.length_take]; omega)]

set_option maxRecDepth 100000 in
set_option maxHeartbeats 3200000 in
theorem rwithin_any (q p : ByteArray) (hq : q.size ≤ 100000) (hp : p.size ≤ 100000) (w : World) :
    Calls Tryz.prog 48 #[.string q, .string p] w fun e w' => e = .returned (.bool (withinS p q)) ∧ Kept (fun _ => False) w w' := by
  have HQ := Lib.hid (fun W => psplit_any q hq W)
  have HP := Lib.hid (fun W => psplit_any p hp W)
  obtain ⟨V, hV⟩ : ∃ V, V = withinS p q := ⟨_, rfl⟩
  rw [← hV]
  have HV := Lib.hid hV
  clear hV hq hp
  cases hnq : namesS q with
  | none =>
    rw [hnq] at HQ
    have hv : V = false := by
      rw [HV.out, Bool.eq_false_iff]
      intro h
      obtain ⟨_, b, _, h2, _⟩ := (within_iff _ _).1 h
      rw [hnq] at h2; cases h2
    subst hv
    clear HV hnq
    obtain ⟨bp, hbp⟩ : ∃ bp, bp = (namesS p).isSome := ⟨_, rfl⟩
    rw [← hbp] at HP
    clear hbp
    go_enter Tryz.func48, Tryz.ntmps48
    go_wp2_with fail
    refine (HQ.out _).mono ?_
    rintro e w2 ⟨v2, rfl, h2⟩
    have K2 := Lib.hid h2.kept; clear h2
    go_wp2_with fail
    refine (HP.out _).mono ?_
    rintro e w3 ⟨v3, rfl, h3⟩
    have K3 := Lib.hid (K2.out.then h3.kept); clear h3
    go_wp2_with fail
    go_ret
    exact ⟨rfl, K3.out⟩
  | some b =>
    rw [hnq] at HQ
    cases hnp : namesS p with
    | none =>
      rw [hnp] at HP
      have hv : V = false := by
        rw [HV.out, Bool.eq_false_iff]
        intro h
        obtain ⟨a, _, h1, _, _⟩ := (within_iff _ _).1 h
        rw [hnp] at h1; cases h1
      subst hv
      clear HV hnp
      go_enter Tryz.func48, Tryz.ntmps48
      go_wp2_with fail
      refine (HQ.out _).mono ?_
      rintro e w2 ⟨v2, rfl, h2⟩
      have K2 := Lib.hid h2.kept; clear h2
      go_wp2_with fail
      refine (HP.out _).mono ?_
      rintro e w3 ⟨v3, rfl, h3⟩
      have K3 := Lib.hid (K2.out.then h3.kept); clear h3
      go_wp2_with fail
      go_ret
      exact ⟨rfl, K3.out⟩
    | some a =>
      rw [hnp] at HP
      have hla := (pathS_names hnp).2.2
      have hlb := (pathS_names hnq).2.2
      have hvi : V = true ↔ b <+: a := by
        rw [HV.out, within_iff]
        exact ⟨fun ⟨a', b', h1, h2, h3⟩ => by rw [hnp] at h1; rw [hnq] at h2; cases h1; cases h2; exact h3, fun h => ⟨a, b, hnp, hnq, h⟩⟩
      have HVI := Lib.hid hvi
      have HNP := Lib.hid hnp; have HNQ := Lib.hid hnq
      clear hvi HV hnp hnq
      go_enter Tryz.func48, Tryz.ntmps48
      go_wp2_with fail
      refine (HQ.out _).mono ?_
      rintro e w2 ⟨v2, rfl, h2⟩
      have s2 := rsplit_names h2 HNQ.out
      have K2 := Lib.hid h2.kept; clear h2
      obtain ⟨qa, qc, rfl, hqc, _⟩ := s2.form
      have S2 := Lib.hid s2; clear s2
      go_wp2_with fail
      refine (HP.out _).mono ?_
      rintro e w3 ⟨v3, rfl, h3⟩
      have s3 := rsplit_names h3 HNP.out
      have S2b := Lib.hid (S2.out.kept h3.kept (fun _ _ h => h))
      have K3 := Lib.hid (K2.out.then h3.kept); clear h3
      obtain ⟨pa, pc, rfl, hpc, _⟩ := s3.form
      have S3 := Lib.hid s3; clear s3 S2 K2 HQ HP
      obtain ⟨n, hn⟩ : ∃ n, n = b.length := ⟨_, rfl⟩
      obtain ⟨m, hm⟩ : ∃ m, m = a.length := ⟨_, rfl⟩
      rw [← hn] at S2b hlb hqc ⊢
      rw [← hm] at S3 hla hpc ⊢
      have HN := Lib.hid hn; have HM := Lib.hid hm
      clear hn hm
      by_cases hle : n ≤ m
      · have hgt : ¬ (m : Int) < (n : Int) := by omega
        have HPX := Lib.hid (prefix_at (a := a) (b := b) (by have := HN.out; have := HM.out; omega))
        go_wp2_with fail
        go_loopw [9, 35] (fun _ iv wr => ∃ k : Nat, k ≤ n ∧ iv = .int .i64 (k : Int) ∧ Hid (∀ i, i < k → b.getD i ⟨#[]⟩ = a.getD i ⟨#[]⟩) ∧ Hid (Kept (fun _ => False) w3 wr)) (fun _ iv _ => n - (intOf iv).toNat)
        case atStart => exact ⟨0, Nat.zero_le _, rfl, Lib.hid (fun i hi => absurd hi (by omega)), Lib.hid (Kept.refl _ _)⟩
        case round =>
          obtain ⟨k, hk, rfl, hlo, hkr⟩ := hrel
          by_cases hlt : k < n
          · have l1 : (k : Int) < (n : Int) := by omega
            have l0 : (0 : Int) ≤ (k : Int) := by omega
            have l2 : (k : Int) < (m : Int) := by omega
            obtain ⟨g, off, rfl, _, c0⟩ := (S2b.out.kept hkr.out (fun _ _ h => h)).at (k := k) (by have := HN.out; omega)
            obtain ⟨g', off', rfl, _, c1⟩ := (S3.out.kept hkr.out (fun _ _ h => h)).at (k := k) (by have := HM.out; omega)
            obtain ⟨x, hx⟩ : ∃ x, x = b.getD k ⟨#[]⟩ := ⟨_, rfl⟩
            obtain ⟨y, hy⟩ : ∃ y, y = a.getD k ⟨#[]⟩ := ⟨_, rfl⟩
            rw [← hx] at c0
            rw [← hy] at c1
            have e1 : (x.toList == y.toList) = decide (x = y) := str_eq x y
            have HX := Lib.hid hx; have HY := Lib.hid hy
            clear hx hy
            by_cases hxy : x = y
            · have hnx : Hid (∀ i, i < k + 1 → b.getD i ⟨#[]⟩ = a.getD i ⟨#[]⟩) := Lib.hid fun i hi => by
                rcases Nat.lt_or_ge i k with h | h
                · exact hlo.out i h
                · obtain rfl : i = k := by omega
                  rw [← HX.out, ← HY.out]; exact hxy
              subst hxy
              have e4 : (x.toList != x.toList) = false := by simp
              clear e1 hlo
              go_wp2_with fail
              go_quiet (fail)
              go_wp2_with fail
              go_roundw
              case rel => exact ⟨k + 1, by omega, by go_num, hnx, Lib.hid (hkr.out.drewN _)⟩
              case measure => simp [intOf]; omega
            · have hv : V = false := by
                rw [Bool.eq_false_iff]
                intro h
                have := (HPX.out.1 (HVI.out.1 h)) k (by have := HN.out; omega)
                rw [← HX.out, ← HY.out] at this
                exact hxy this
              have e2 : (x.toList == y.toList) = false := by rw [e1]; simp [hxy]
              have e3 : (x.toList != y.toList) = true := by rw [bne, e2]; rfl
              have e4 : ¬ x.toList = y.toList := by simpa using e2
              subst hv
              clear e1 hlo hxy
              go_wp2_with fail
              go_quiet (fail)
              go_wp2_with fail
              go_ret
              exact ⟨rfl, (K3.out.then hkr.out).drewN _⟩
          · obtain rfl : k = n := by omega
            have hv : V = true := HVI.out.2 (HPX.out.2 fun i hi => hlo.out i (by have := HN.out; omega))
            subst hv
            clear hlo
            go_wp2_with fail
            go_ret
            exact ⟨rfl, K3.out.then hkr.out⟩
      · have hgt : (m : Int) < (n : Int) := by omega
        have hv : V = false := by
          rw [Bool.eq_false_iff]
          intro h
          have := (HVI.out.1 h).length_le
          have := HN.out; have := HM.out
          omega
        subst hv
        go_wp2_with fail
        go_ret
        exact ⟨rfl, K3.out⟩

theorem chkP_split (x : Per) : (validS x.a = false ∧ chkP x = 9) ∨ (validS x.a = true ∧ namesS x.p = none ∧ chkP x = 6) ∨
    (validS x.a = true ∧ ∃ l, namesS x.p = some l ∧ l.length ≤ 8 ∧ ((l.length = 8 ∧ x.d = true ∧ chkP x = 6) ∨ (l.length = 8 ∧ x.d = false ∧ chkP x = 0) ∨ (l.length ≠ 8 ∧ chkP x = 0))) := by
  unfold chkP okP dpS
  cases hv : validS x.a with
  | false => exact Or.inl ⟨rfl, rfl⟩
  | true =>
    right
    cases hn : namesS x.p with
    | none => exact Or.inl ⟨rfl, rfl, rfl⟩
    | some l =>
      right
      refine ⟨rfl, l, rfl, (pathS_names hn).2.2, ?_⟩
      by_cases h8 : l.length = 8
      · cases hd : x.d with
        | false => exact Or.inr (Or.inl ⟨h8, rfl, by simp⟩)
        | true => exact Or.inl ⟨h8, rfl, by simp [h8]⟩
      · exact Or.inr (Or.inr ⟨h8, by simp [h8]⟩)

set_option maxRecDepth 100000 in
set_option maxHeartbeats 3200000 in
theorem rcheck_any (x : Per) (hs : x.p.size ≤ 100000) (w : World) :
    Calls Tryz.prog 29 #[perV x] w fun e w' => e = .returned (.int .i64 (chkP x)) ∧ Kept (fun _ => False) w w' := by
  have HC := Lib.hid (chkP_split x)
  have HV := Lib.hid (fun W => rvalid_any x.a W)
  have HD := Lib.hid (fun W => psplit_any x.p hs W)
  obtain ⟨a, p, d⟩ := x
  unfold perV
  have HB := Lib.hid (Bx.new w a p d 36)
  have HK := Lib.hid (Kept.alloc (fun _ => False) w (.cells #[.string a, .string p, .bool d] 36))
  simp only at HC HV HD
  generalize chkP ⟨a, p, d⟩ = C at *
  generalize validS a = V at *
  clear hs
  go_enter Tryz.func29, Tryz.ntmps29
  go_wp2_with fail
  refine (HV.out _).mono ?_
  generalize w.alloc (.cells #[.string a, .string p, .bool d] 36) = W1 at *
  generalize w.heap.size = Q at *
  rintro e w2 ⟨rfl, k2⟩
  obtain ⟨c0, c1, c2⟩ := HB.out.stay k2
  have HB2 := Lib.hid (HB.out.stay k2)
  have HK2 := Lib.hid (HK.out.then k2)
  clear HB HK k2 HV
  have hc := HC.out
  clear HC
  rcases hc with ⟨rfl, rfl⟩ | ⟨rfl, hn, rfl⟩ | ⟨rfl, l, hn, hl8, hc⟩
  · go_wp2_with fail
    go_ret
    exact ⟨rfl, HK2.out⟩
  · rw [hn] at HD
    clear hn
    go_wp2_with fail
    refine (HD.out _).mono ?_
    rintro e w3 ⟨v3, rfl, h3⟩
    obtain ⟨c0, c1, c2⟩ := HB2.out.stay h3.kept
    have HK3 := Lib.hid (HK2.out.then h3.kept)
    clear h3
    go_wp2_with fail
    go_ret
    exact ⟨rfl, HK3.out⟩
  · rw [hn] at HD
    have HN := Lib.hid hn
    have HC := Lib.hid hc
    clear hn hc
    go_wp2_with fail
    refine (HD.out _).mono ?_
    rintro e w3 ⟨v3, rfl, h3⟩
    obtain ⟨c0, c1, c2⟩ := HB2.out.stay h3.kept
    have HK3 := Lib.hid (HK2.out.then h3.kept)
    obtain ⟨va, vc, rfl, _, _⟩ := (rsplit_names h3 HN.out).form
    clear h3
    have hc := HC.out
    clear HC HN HD HK2 HB2
    generalize l.length = n at hc hl8 ⊢
    rcases hc with ⟨rfl, rfl, rfl⟩ | ⟨rfl, rfl, rfl⟩ | ⟨h8, rfl⟩
    · go_wp2_with fail
      go_ret
      exact ⟨rfl, HK3.out⟩
    · go_wp2_with fail
      go_ret
      exact ⟨rfl, HK3.out⟩
    · have h8i : ¬ (n : Int) = 8 := by omega
      have h8b : ((n : Int) == 8) = false := beq_eq_false_iff_ne.2 h8i
      cases d <;>
      · go_wp2_with fail
        go_ret
        exact ⟨rfl, HK3.out⟩

theorem covP_eq (x : Per) (a s : ByteArray) : covP x a s = (okP x && (namesS s).isSome && decide (a = x.a) && (decide (s = x.p) || (x.d && withinS s x.p))) := by
  unfold covP
  rw [Bool.eq_iff_iff, impP_iff, okP_req]
  simp only [Bool.and_eq_true, Bool.or_eq_true, decide_eq_true_eq]
  constructor
  · rintro ⟨h1, ⟨h2, h3⟩, h4⟩
    rcases h4 with e | ⟨h5, h6, h7⟩
    · have e1 : x.a = a := by rw [e]
      have e2 : x.p = s := by rw [e]
      exact ⟨⟨⟨h1, h3⟩, e1.symm⟩, Or.inl e2.symm⟩
    · exact ⟨⟨⟨h1, h3⟩, h6.symm⟩, Or.inr ⟨h5, h7⟩⟩
  · rintro ⟨⟨⟨h1, h3⟩, h6⟩, h4⟩
    refine ⟨h1, ⟨by rw [h6]; exact okP_name h1, h3⟩, ?_⟩
    rcases h4 with e | ⟨h5, h7⟩
    · cases hd : x.d with
      | false => exact Or.inl (per_ext h6.symm e.symm hd)
      | true => exact Or.inr ⟨rfl, h6.symm, by rw [e]; exact within_refl (by rw [← e]; exact h3)⟩
    · exact Or.inr ⟨h5, h6.symm, h7⟩

set_option maxRecDepth 100000 in
set_option maxHeartbeats 3200000 in
theorem rcov_any (x : Per) (b s : ByteArray) (hx : x.p.size ≤ 100000) (hs : s.size ≤ 100000) (w : World) :
    Calls Tryz.prog 32 #[perV x, .string b, .string s] w fun e w' => e = .returned (.bool (covP x b s)) ∧ Kept (fun _ => False) w w' := by
  have HS := Lib.hid (fun W => psplit_any s hs W)
  have HC := Lib.hid (fun W => rcheck_any x hx W)
  have HW := Lib.hid (fun W => rwithin_any x.p s hx hs W)
  have hz := chkP_zero x
  obtain ⟨V, hV⟩ : ∃ V, V = covP x b s := ⟨_, rfl⟩
  rw [← hV]
  rw [covP_eq] at hV
  obtain ⟨a, p, d⟩ := x
  unfold perV at *
  simp only at hV HW
  have HB := Lib.hid (Bx.new w a p d 36)
  have HK := Lib.hid (Kept.alloc (fun _ => False) w (.cells #[.string a, .string p, .bool d] 36))
  have e1 : (b.toList == a.toList) = decide (b = a) := str_eq b a
  have e2 : (s.toList == p.toList) = decide (s = p) := str_eq s p
  have n1 : (b.toList != a.toList) = !decide (b = a) := by rw [bne, e1]
  generalize decide (b = a) = E1 at *
  generalize decide (s = p) = E2 at *
  generalize (namesS s).isSome = NS at *
  generalize withinS s p = WI at *
  have hcz : (chkP ⟨a, p, d⟩ != 0) = !okP ⟨a, p, d⟩ := by
    rw [bne]
    congr 1
    rw [Bool.eq_iff_iff, ← hz]; simp
  have hce : (chkP ⟨a, p, d⟩ == 0) = okP ⟨a, p, d⟩ := by rw [Bool.eq_iff_iff, ← hz]; simp
  generalize chkP ⟨a, p, d⟩ = C at *
  generalize okP ⟨a, p, d⟩ = O at *
  have HV := Lib.hid hV
  clear hV hz hx hs
  go_enter Tryz.func32, Tryz.ntmps32
  go_wp2_with fail
  refine (HS.out _).mono ?_
  generalize w.alloc (.cells #[.string a, .string p, .bool d] 36) = W1 at *
  generalize w.heap.size = Q at *
  rintro e w2 ⟨v2, rfl, h2⟩
  obtain ⟨c0, c1, c2⟩ := HB.out.stay h2.kept
  have HB2 := Lib.hid (HB.out.stay h2.kept)
  have HK2 := Lib.hid (HK.out.then h2.kept)
  clear h2 HB HK HS
  go_wp2_with fail
  refine (HC.out _).mono ?_
  rintro e w3 ⟨rfl, k3⟩
  obtain ⟨c0, c1, c2⟩ := HB2.out.stay k3
  have HK3 := Lib.hid (HK2.out.then k3)
  clear k3 HB2 HC HK2
  cases O with
  | false =>
    have hv : V = false := by rw [HV.out]; rfl
    subst hv
    clear HV
    go_wp2_with fail
    all_goals (go_ret; exact ⟨rfl, HK3.out⟩)
  | true =>
    cases NS with
    | false =>
      have hv : V = false := by rw [HV.out]; rfl
      subst hv
      clear HV
      go_wp2_with fail
      all_goals (go_ret; exact ⟨rfl, HK3.out⟩)
    | true =>
      cases E1 with
      | false =>
        have hv : V = false := by rw [HV.out]; rfl
        subst hv
        clear HV
        go_wp2_with fail
        all_goals (go_ret; exact ⟨rfl, HK3.out⟩)
      | true =>
        cases E2 with
        | true =>
          have hv : V = true := by rw [HV.out]; rfl
          subst hv
          clear HV
          go_wp2_with fail
          all_goals (go_ret; exact ⟨rfl, HK3.out⟩)
        | false =>
          cases d with
          | false =>
            have hv : V = false := by rw [HV.out]; rfl
            subst hv
            clear HV
            go_wp2_with fail
            all_goals (go_ret; exact ⟨rfl, HK3.out⟩)
          | true =>
            have hv : V = WI := by rw [HV.out]; simp
            subst hv
            clear HV
            go_wp2_with fail
            refine (HW.out _).mono ?_
            rintro e w4 ⟨rfl, k4⟩
            have HK4 := Lib.hid (HK3.out.then k4)
            clear k4
            go_wp2_with fail
            go_ret
            exact ⟨rfl, HK4.out⟩
end Go.Proofs.YtnnakllgfaaejaaGreatDoor
/-
  Permissions: Text. strings.TrimSuffix and CutSuffix laid at this seat's program.
-/
namespace Go.Proofs.YtnnakllgfaaejaaGreatDoor
open Go.RowKit Go.Shelf
set_option linter.unusedSimpArgs false
set_option linter.unusedVariables false
set_option maxRecDepth 100000

def laysTrimS_ren : Go.Shelf.Ren := ⟨fun | 102 => 39 | 207 => 76 | 209 => 52 | n => n, fun | 3 => 3 | 4 => 4 | 9 => 9 | n => n, fun | n => n⟩
theorem laysTrimS : Go.Proofs.Lays.n102 Tryz.prog laysTrimS_ren := {
  mixed := by kernel_rfl
  f102 := Tryz.func39.trans (congrArg some (by kernel_rfl))
  f207 := Tryz.func76.trans (congrArg some (by kernel_rfl))
  f209 := Tryz.func52.trans (congrArg some (by kernel_rfl))
  t3 := Tryz.underlying3
  a3 := Tryz.isAgg3
  z3 := Tryz.sizeOf3
  v3 := Tryz.zeroValue3
  t4 := Tryz.underlying4
  a4 := Tryz.isAgg4
  z4 := Tryz.sizeOf4
  v4 := Tryz.zeroValue4
  t9 := Tryz.underlying9
  a9 := Tryz.isAgg9
  z9 := Tryz.sizeOf9
  v9 := Tryz.zeroValue9 }

/-- A text without a last stroke. -/
def trS (p : ByteArray) : ByteArray := ⟨(Lib.trimSuffix p.data.toList [47]).toArray⟩
theorem sh_Trim (p : ByteArray) (hp : p.size ≤ 1000000) (w : World) : Calls Tryz.prog 39 #[.string p, .string ⟨#[47]⟩] w fun e w' => e = .returned (.string (trS p)) ∧ w = w' :=
  (Any.strings_TrimSuffix laysTrimS p ⟨#[47]⟩ w (by omega)).mono fun _ _ ⟨h1, h2⟩ => ⟨h1, h2.symm⟩
theorem trS_size (p : ByteArray) : (trS p).size ≤ p.size := by
  show (Lib.trimSuffix p.data.toList [47]).toArray.size ≤ p.data.toList.length
  rw [List.size_toArray]
  unfold Lib.trimSuffix
  split
  · rw [List.length_take]; omega
  · exact Nat.le_refl _

/-- The text of a permission. -/
def txtP (x : Per) : ByteArray := if okP x then (if x.d then ((x.a ++ ⟨#[32]⟩) ++ trS x.p) ++ ⟨#[47, 42]⟩ else (x.a ++ ⟨#[32]⟩) ++ x.p) else ⟨#[]⟩

set_option maxHeartbeats 3200000 in
theorem ptext_any (x : Per) (hs : x.p.size ≤ 1000000) (w : World) :
    Calls Tryz.prog 22 #[perV x] w fun e w' => e = .returned (.string (txtP x)) ∧ Kept (fun _ => False) w w' := by
  have HO := Lib.hid (fun W => pok_any x hs W)
  have HT := Lib.hid (fun W => sh_Trim x.p hs W)
  obtain ⟨V, hV⟩ : ∃ V, V = txtP x := ⟨_, rfl⟩
  rw [← hV]
  unfold txtP at hV
  have hsm : okP x = true → x.a.size ≤ 12 ∧ x.p.size ≤ 10000 := fun h => okP_small h
  have htr := trS_size x.p
  obtain ⟨a, p, d⟩ := x
  unfold perV at *
  simp only at hV HT hsm htr
  generalize okP ⟨a, p, d⟩ = O at *
  generalize trS p = tp at *
  have HB := Lib.hid (Bx.new w a p d 35)
  have HK := Lib.hid (Kept.alloc (fun _ => False) w (.cells #[.string a, .string p, .bool d] 35))
  have HV := Lib.hid hV
  have HSM := Lib.hid hsm
  clear hs hV hsm
  go_enter Tryz.func22, Tryz.ntmps22
  go_wp2_with fail
  refine (HO.out _).mono ?_
  generalize w.alloc (.cells #[.string a, .string p, .bool d] 35) = W1 at *
  generalize w.heap.size = Q at *
  rintro e w2 ⟨rfl, k2⟩
  obtain ⟨c0, c1, c2⟩ := HB.out.stay k2
  have HK2 := Lib.hid (HK.out.then k2)
  clear k2 HO HB HK
  cases O with
  | false =>
    have hv : V = ⟨#[]⟩ := by rw [HV.out]; rfl
    subst hv
    go_wp2_with fail
    go_ret
    exact ⟨rfl, HK2.out⟩
  | true =>
    obtain ⟨h1, h2⟩ := HSM.out rfl
    have g1 : ¬ 9223372036854775807 < a.size + 1 := by omega
    cases d with
    | false =>
      have hv : V = (a ++ ⟨#[32]⟩) ++ p := by rw [HV.out]; rfl
      have g2 : ¬ 9223372036854775807 < a.size + 1 + p.size := by omega
      have HV2 := Lib.hid hv
      clear HV hv HSM htr h1 h2
      go_wp2_with fail
      go_ret
      exact ⟨by rw [HV2.out]; rfl, HK2.out⟩
    | true =>
      have hv : V = ((a ++ ⟨#[32]⟩) ++ tp) ++ ⟨#[47, 42]⟩ := by rw [HV.out]; rfl
      have g2 : ¬ 9223372036854775807 < a.size + 1 + tp.size := by omega
      have g3 : ¬ 9223372036854775807 < a.size + 1 + tp.size + 2 := by omega
      have HV2 := Lib.hid hv
      clear HV hv HSM htr h1 h2
      go_wp2_with fail
      go_quiet ((go_at_call 39; with_reducible exact Calls.quiet_of_same ((HT.out _).mono fun e w' h => ⟨h.1, h.2.symm⟩)))
      go_wp2_with fail
      go_ret
      exact ⟨by rw [HV2.out]; rfl, HK2.out.drewN nq⟩
end Go.Proofs.YtnnakllgfaaejaaGreatDoor
/-
  The reference of permissions: compareText, comparePath, Compare, Text.
-/
namespace Go.Proofs.YtnnakllgfaaejaaGreatDoor
open Go.RowKit
set_option linter.unusedSimpArgs false
set_option linter.unusedVariables false

set_option maxRecDepth 100000 in
set_option maxHeartbeats 1600000 in
theorem rtext_any (a b : ByteArray) (w : World) : Calls Tryz.prog 70 #[.string a, .string b] w fun e w' => e = .returned (.int .i64 (cmpB a b)) ∧ w = w' := by
  have h := cmpB_cases a.data.toList b.data.toList
  have h' := cmpB_cases b.data.toList a.data.toList
  have hsw := cb_swap a.data.toList b.data.toList
  unfold cmpB
  rw [← ByteArray.toList_eq, ← ByteArray.toList_eq] at h h' hsw ⊢
  rcases h with ⟨h1, h2, h3⟩ | ⟨h1, h2, h3⟩ | ⟨h1, h2, h3⟩
  · rw [h1]
    clear h1 h3 h' hsw
    go_enter Tryz.func70, Tryz.ntmps70
    go_wp2_with fail
    go_ret
    exact ⟨rfl, rfl⟩
  · rw [h1]
    have h4 : (a.toList == b.toList) = true := by rw [h3]; simp
    clear h1 h3 h' hsw
    go_enter Tryz.func70, Tryz.ntmps70
    go_wp2_with fail
    go_ret
    exact ⟨rfl, rfl⟩
  · have h4 : (a.toList == b.toList) = false := beq_eq_false_iff_ne.2 h3
    rw [h1]
    clear h1 h3 h' hsw
    go_enter Tryz.func70, Tryz.ntmps70
    go_wp2_with fail
    go_ret
    exact ⟨rfl, rfl⟩

set_option maxRecDepth 100000 in
set_option maxHeartbeats 3200000 in
theorem rcmpn_any (v1 v2 : Value) (xs ys : List ByteArray) (w : World) (h1 : Strs w v1 xs) (h2 : Strs w v2 ys) :
    Calls Tryz.prog 71 #[v1, v2] w fun e w' => e = .returned (.int .i64 (cmpN xs ys)) ∧ Kept (fun _ => False) w w' := by
  obtain ⟨a1, c1, rfl, hc1, hm1⟩ := h1.form
  obtain ⟨a2, c2, rfl, hc2, hm2⟩ := h2.form
  unfold maxLen at hm1 hm2
  have H1 := Lib.hid h1; have H2 := Lib.hid h2
  obtain ⟨n, hn⟩ : ∃ n, n = xs.length := ⟨_, rfl⟩
  obtain ⟨m, hm⟩ : ∃ m, m = ys.length := ⟨_, rfl⟩
  have hnb : n ≤ 9223372036854775807 := by omega
  have hmb : m ≤ 9223372036854775807 := by omega
  obtain ⟨R, hR⟩ : ∃ R, R = cmpN xs ys := ⟨_, rfl⟩
  rw [← hn] at H1 ⊢
  rw [← hm] at H2 ⊢
  rw [← hR]
  have HN := Lib.hid hn; have HM := Lib.hid hm; have HR := Lib.hid hR
  clear h1 h2 hn hm hc1 hm1 hc2 hm2 hR
  go_enter Tryz.func71, Tryz.ntmps71
  go_wp2_with fail
  go_loopw [5, 6] (fun iv _ wr => ∃ k : Nat, k ≤ n ∧ k ≤ m ∧ iv = .int .i64 k ∧ Hid (∀ j, j < k → xs.getD j ⟨#[]⟩ = ys.getD j ⟨#[]⟩) ∧ Hid (Kept (fun _ => False) w wr)) (fun iv _ _ => n - (intOf iv).toNat)
  case atStart => exact ⟨0, by omega, by omega, rfl, fun j hj => by omega, Kept.refl _ _⟩
  case round =>
    obtain ⟨k, hkn, hkm, rfl, heq, hkr⟩ := hrel
    have l0 : (0 : Int) ≤ (k : Int) := by omega
    by_cases hlt : k < n ∧ k < m
    · obtain ⟨hl1, hl2⟩ := hlt
      have l1 : (k : Int) < (n : Int) := by omega
      have l2 : (k : Int) < (m : Int) := by omega
      obtain ⟨g, off, rfl, _, hcell⟩ := (H1.out.kept hkr.out (fun _ _ h => h)).at (k := k) (by have := HN.out; omega)
      obtain ⟨g', off', rfl, _, hcell'⟩ := (H2.out.kept hkr.out (fun _ _ h => h)).at (k := k) (by have := HM.out; omega)
      obtain ⟨x, hx⟩ : ∃ x, x = xs.getD k ⟨#[]⟩ := ⟨_, rfl⟩
      obtain ⟨y, hy⟩ : ∃ y, y = ys.getD k ⟨#[]⟩ := ⟨_, rfl⟩
      rw [← hx] at hcell
      rw [← hy] at hcell'
      have HX := Lib.hid hx; have HY := Lib.hid hy
      have HC := Lib.hid (fun W => rtext_any x y W)
      have hz : cmpB x y = 0 ↔ x = y := cmpB_zero
      obtain ⟨C, hC⟩ : ∃ C, C = cmpB x y := ⟨_, rfl⟩
      rw [← hC] at HC hz
      have HCC := Lib.hid hC
      clear hx hy hC
      by_cases h0 : C = 0
      · have hxy := hz.1 h0
        have hnx : Hid (∀ j, j < k + 1 → xs.getD j ⟨#[]⟩ = ys.getD j ⟨#[]⟩) := Lib.hid fun j hj => by
          rcases Nat.lt_or_ge j k with h | h
          · exact heq.out j h
          · obtain rfl : j = k := by omega
            rw [← HX.out, ← HY.out]; exact hxy
        subst h0
        clear hz hxy heq
        go_wp2_with fail
        go_quiet ((go_at_call 70; with_reducible exact Calls.quiet_of_same ((HC.out _).mono fun e w' h => ⟨h.1, h.2.symm⟩)))
        go_wp2_with fail
        go_roundw
        case rel => exact ⟨k + 1, by omega, by omega, by go_num, hnx, Lib.hid (hkr.out.drewN _)⟩
        case measure => simp [intOf]; omega
      · have hR2 : R = C := by
          rw [HR.out, HCC.out, HX.out, HY.out]
          exact cmpN_stop heq.out (by have := HN.out; omega) (by have := HM.out; omega) (by rw [← HX.out, ← HY.out, ← HCC.out]; exact h0)
        have h0b : (C != 0) = true := by simpa using h0
        have h0c : (C == 0) = false := beq_eq_false_iff_ne.2 h0
        subst hR2
        clear hz heq HCC HR
        go_wp2_with fail
        go_quiet ((go_at_call 70; with_reducible exact Calls.quiet_of_same ((HC.out _).mono fun e w' h => ⟨h.1, h.2.symm⟩)))
        go_wp2_with fail
        go_ret
        exact ⟨rfl, hkr.out.drewN _⟩
    · have HKW := Lib.hid hkr.out
      by_cases hnm : n < m
      · obtain rfl : k = n := by omega
        have hv : R = -1 := by rw [HR.out]; exact cmpN_right (fun i hi => heq.out i (by have := HN.out; omega)) (by have := HN.out; have := HM.out; omega)
        subst hv
        have l1 : ¬ (k : Int) < (k : Int) := by omega
        have l2 : (k : Int) < (m : Int) := by omega
        clear heq
        go_wp2_with fail
        go_ret
        exact ⟨rfl, HKW.out⟩
      · by_cases hmn : m < n
        · obtain rfl : k = m := by omega
          have hv : R = 1 := by rw [HR.out]; exact cmpN_left (fun i hi => heq.out i (by have := HM.out; omega)) (by have := HN.out; have := HM.out; omega)
          subst hv
          have l1 : (k : Int) < (n : Int) := by omega
          have l2 : ¬ (k : Int) < (k : Int) := by omega
          have l3 : ¬ (n : Int) < (k : Int) := by omega
          clear heq
          go_wp2_with fail
          go_ret
          exact ⟨rfl, HKW.out⟩
        · obtain rfl : m = n := by omega
          obtain rfl : k = m := by omega
          have hv : R = 0 := by rw [HR.out]; exact cmpN_same (fun i hi => heq.out i (by have := HN.out; omega)) (by have := HN.out; have := HM.out; omega)
          subst hv
          have l1 : ¬ (k : Int) < (k : Int) := by omega
          clear heq
          go_wp2_with fail
          go_ret
          exact ⟨rfl, HKW.out⟩

set_option maxRecDepth 100000 in
set_option maxHeartbeats 3200000 in
theorem rcmp_any (x y : Per) (hx : x.p.size ≤ 100000) (hy : y.p.size ≤ 100000) (w : World) :
    Calls Tryz.prog 47 #[perV x, perV y] w fun e w' => e = .returned (.int .i64 (cmpP x y)) ∧ Kept (fun _ => False) w w' := by
  have HA := Lib.hid (fun W => rtext_any x.a y.a W)
  have HT := Lib.hid (fun W => rtext_any x.p y.p W)
  have HSX := Lib.hid (fun W => psplit_any x.p hx W)
  have HSY := Lib.hid (fun W => psplit_any y.p hy W)
  have hc := cmpP_cases x y
  have hza : cmpB x.a y.a = 0 ↔ x.a = y.a := cmpB_zero
  have hzt := cmpT_zero x.p y.p
  obtain ⟨a, p, d⟩ := x
  obtain ⟨b, q, f⟩ := y
  unfold perV at *
  simp only at hc HA HT HSX HSY hza hzt
  generalize cmpP ⟨a, p, d⟩ ⟨b, q, f⟩ = C at *
  generalize cmpB a b = CB at *
  have HB2 := Lib.hid (Bx.new (w.alloc (.cells #[.string a, .string p, .bool d] 36)) b q f 36)
  have HB1 := Lib.hid ((Bx.new w a p d 36).stay (Kept.alloc (fun _ => False) _ (.cells #[.string b, .string q, .bool f] 36)))
  have HK := Lib.hid ((Kept.alloc (fun _ => False) w (.cells #[.string a, .string p, .bool d] 36)).then (Kept.alloc (fun _ => False) _ (.cells #[.string b, .string q, .bool f] 36)))
  have hq : (w.alloc (.cells #[.string a, .string p, .bool d] 36)).heap.size = w.heap.size + 1 := by simp
  rw [hq] at HB2
  clear hq hx hy
  rcases hc with ⟨h1, rfl⟩ | hc
  · have h0 : ¬ C = 0 := fun e => h1 (hza.1 e)
    have h0b : (C != 0) = true := by simpa using h0
    have h0c : (C == 0) = false := beq_eq_false_iff_ne.2 h0
    clear hza hzt
    go_enter Tryz.func47, Tryz.ntmps47
    go_wp2_with fail
    refine (HA.out _).mono ?_
    rintro e w2 ⟨rfl, rfl⟩
    go_wp2_with fail
    go_ret
    exact ⟨rfl, HK.out⟩
  · obtain rfl : CB = 0 := hza.2 (by rcases hc with h | h <;> exact h.1)
    -- behind the actions: the paths
    have hc2 : (p ≠ q ∧ C = cmpT p q) ∨ (p = q ∧ ((d = f ∧ C = 0) ∨ (d = false ∧ f = true ∧ C = -1) ∨ (d = true ∧ f = false ∧ C = 1))) := by
      rcases hc with h | h
      · exact Or.inl ⟨h.2.1, h.2.2⟩
      · exact Or.inr ⟨h.2.1, h.2.2⟩
    have hpc : (cmpT p q = 0 ↔ p = q) := hzt
    clear hza hc
    go_enter Tryz.func47, Tryz.ntmps47
    go_wp2_with fail
    refine (HA.out _).mono ?_
    generalize (w.alloc (.cells #[.string a, .string p, .bool d] 36)).alloc (.cells #[.string b, .string q, .bool f] 36) = W1 at *
    generalize w.heap.size = Q at *
    rintro e w2 ⟨rfl, rfl⟩
    obtain ⟨c0, c1, c2⟩ := HB1.out
    obtain ⟨b0, b1, b2⟩ := HB2.out
    clear HA
    have HC2 := Lib.hid hc2; have HZT := Lib.hid hzt
    clear hc2 hzt hpc
    go_wp2_with fail
    refine (HSX.out _).mono ?_
    rintro e w3 ⟨v3, rfl, h3⟩
    have HR3 := Lib.hid h3
    obtain ⟨c0, c1, c2⟩ := HB1.out.stay h3.kept
    obtain ⟨b0, b1, b2⟩ := HB2.out.stay h3.kept
    clear h3
    go_wp2_with fail
    refine (HSY.out _).mono ?_
    rintro e w4 ⟨v4, rfl, h4⟩
    have HK4 := Lib.hid ((HK.out.then HR3.out.kept).then h4.kept)
    obtain ⟨c0, c1, c2⟩ := HB1.out.stay (HR3.out.kept.then h4.kept)
    obtain ⟨b0, b1, b2⟩ := HB2.out.stay (HR3.out.kept.then h4.kept)
    have HR4 := Lib.hid h4
    clear h4 HSX HSY HB1 HB2 HK
    cases hp : namesS p with
    | none =>
      have hct : cmpT p q = cmpB p q := by unfold cmpT; rw [hp]
      have HTT : Hid (∀ W, Calls Tryz.prog 70 #[.string p, .string q] W fun e w' => e = .returned (.int .i64 (cmpT p q)) ∧ Kept (fun _ => False) W w') := fun W => by rw [hct]; exact (HT.out W).mono fun e w' h => ⟨h.1, by rw [h.2]; exact Kept.refl _ _⟩
      clear hct hp HR3 HR4 HT
      obtain ⟨CT, hCT⟩ : ∃ CT, CT = cmpT p q := ⟨_, rfl⟩
      rw [← hCT] at HTT HC2 HZT
      have hc2 := HC2.out
      have hzt := HZT.out
      clear hCT HC2 HZT
      rcases hc2 with ⟨h1, rfl⟩ | ⟨h1, hc2⟩
      · have h0 : ¬ C = 0 := fun e => h1 (hzt.1 e)
        have h0b : (C != 0) = true := by simpa using h0
        have h0c : (C == 0) = false := beq_eq_false_iff_ne.2 h0
        clear hzt h1
        go_wp2_with fail
        refine (HTT.out _).mono ?_
        rintro e w5 ⟨rfl, k5⟩
        have K5 := Lib.hid (HK4.out.then k5)
        clear k5
        go_wp2_with fail
        go_ret
        exact ⟨rfl, K5.out⟩
      · obtain rfl : CT = 0 := hzt.2 h1
        clear hzt h1
        go_wp2_with fail
        refine (HTT.out _).mono ?_
        rintro e w5 ⟨rfl, k5⟩
        have K5 := Lib.hid (HK4.out.then k5)
        have f : ∀ {p : Addr} {v : Value}, w4.cell? p = some v → w5.cell? p = some v := fun {p v} h => (k5.cell (World.block_lt_of_cell? w4 _ h) (fun h => h)).trans h
        replace c2 := f c2
        replace b2 := f b2
        clear f k5
        rcases hc2 with ⟨rfl, rfl⟩ | ⟨rfl, rfl, rfl⟩ | ⟨rfl, rfl, rfl⟩
        all_goals (try cases d)
        all_goals go_wp2_with fail
        all_goals go_ret
        all_goals exact ⟨rfl, K5.out⟩
    | some xs =>
      cases hq : namesS q with
      | none =>
        have hct : cmpT p q = cmpB p q := by unfold cmpT; rw [hp, hq]
        have HTT : Hid (∀ W, Calls Tryz.prog 70 #[.string p, .string q] W fun e w' => e = .returned (.int .i64 (cmpT p q)) ∧ Kept (fun _ => False) W w') := fun W => by rw [hct]; exact (HT.out W).mono fun e w' h => ⟨h.1, by rw [h.2]; exact Kept.refl _ _⟩
        clear hct hp hq HR3 HR4 HT
        obtain ⟨CT, hCT⟩ : ∃ CT, CT = cmpT p q := ⟨_, rfl⟩
        rw [← hCT] at HTT HC2 HZT
        have hc2 := HC2.out
        have hzt := HZT.out
        clear hCT HC2 HZT
        rcases hc2 with ⟨h1, rfl⟩ | ⟨h1, hc2⟩
        · have h0 : ¬ C = 0 := fun e => h1 (hzt.1 e)
          have h0b : (C != 0) = true := by simpa using h0
          have h0c : (C == 0) = false := beq_eq_false_iff_ne.2 h0
          clear hzt h1
          go_wp2_with fail
          refine (HTT.out _).mono ?_
          rintro e w5 ⟨rfl, k5⟩
          have K5 := Lib.hid (HK4.out.then k5)
          clear k5
          go_wp2_with fail
          go_ret
          exact ⟨rfl, K5.out⟩
        · obtain rfl : CT = 0 := hzt.2 h1
          clear hzt h1
          go_wp2_with fail
          refine (HTT.out _).mono ?_
          rintro e w5 ⟨rfl, k5⟩
          have K5 := Lib.hid (HK4.out.then k5)
          have f : ∀ {p : Addr} {v : Value}, w4.cell? p = some v → w5.cell? p = some v := fun {p v} h => (k5.cell (World.block_lt_of_cell? w4 _ h) (fun h => h)).trans h
          replace c2 := f c2
          replace b2 := f b2
          clear f k5
          rcases hc2 with ⟨rfl, rfl⟩ | ⟨rfl, rfl, rfl⟩ | ⟨rfl, rfl, rfl⟩
          all_goals (try cases d)
          all_goals go_wp2_with fail
          all_goals go_ret
          all_goals exact ⟨rfl, K5.out⟩
      | some ys =>
        have s3 := (rsplit_names HR3.out hp).kept HR4.out.kept (fun _ _ h => h)
        have s4 := rsplit_names HR4.out hq
        have hct : cmpT p q = cmpN xs ys := by unfold cmpT; rw [hp, hq]
        have hcc := rcmpn_any v3 v4 xs ys w4 s3 s4
        rw [← hct] at hcc
        have HTT := Lib.hid hcc
        clear hct hp hq HR3 HR4 HT hcc s3 s4
        obtain ⟨CT, hCT⟩ : ∃ CT, CT = cmpT p q := ⟨_, rfl⟩
        rw [← hCT] at HTT HC2 HZT
        have hc2 := HC2.out
        have hzt := HZT.out
        clear hCT HC2 HZT
        rcases hc2 with ⟨h1, rfl⟩ | ⟨h1, hc2⟩
        · have h0 : ¬ C = 0 := fun e => h1 (hzt.1 e)
          have h0b : (C != 0) = true := by simpa using h0
          have h0c : (C == 0) = false := beq_eq_false_iff_ne.2 h0
          clear hzt h1
          go_wp2_with fail
          refine (HTT.out).mono ?_
          rintro e w5 ⟨rfl, k5⟩
          have K5 := Lib.hid (HK4.out.then k5)
          clear k5
          go_wp2_with fail
          go_ret
          exact ⟨rfl, K5.out⟩
        · obtain rfl : CT = 0 := hzt.2 h1
          clear hzt h1
          go_wp2_with fail
          refine (HTT.out).mono ?_
          rintro e w5 ⟨rfl, k5⟩
          have K5 := Lib.hid (HK4.out.then k5)
          have f : ∀ {p : Addr} {v : Value}, w4.cell? p = some v → w5.cell? p = some v := fun {p v} h => (k5.cell (World.block_lt_of_cell? w4 _ h) (fun h => h)).trans h
          replace c2 := f c2
          replace b2 := f b2
          clear f k5
          rcases hc2 with ⟨rfl, rfl⟩ | ⟨rfl, rfl, rfl⟩ | ⟨rfl, rfl, rfl⟩
          all_goals (try cases d)
          all_goals go_wp2_with fail
          all_goals go_ret
          all_goals exact ⟨rfl, K5.out⟩
end Go.Proofs.YtnnakllgfaaejaaGreatDoor
/-
  Permissions: whether two of them are equal, as one step.
-/
namespace Go.Proofs.YtnnakllgfaaejaaGreatDoor
open Go.RowKit Go.Maps Go.WideMaps Go.ChangeMaps
set_option linter.unusedSimpArgs false
set_option linter.unusedVariables false
set_option maxRecDepth 100000

theorem dec_perQ (a p b q : ByteArray) (d f : Bool) : decide (Per.mk a p d = ⟨b, q, f⟩) = (a.toList == b.toList && (p.toList == q.toList && d == f)) := by
  rw [str_eq, str_eq, Bool.eq_iff_iff]
  simp only [Bool.and_eq_true, decide_eq_true_eq, beq_iff_eq, Per.mk.injEq]

theorem equalIn_R (a p b q : ByteArray) (d f : Bool) (W : World) : (Op.equalIn 10000 36 (.agg #[.string a, .string p, .bool d]) (.agg #[.string b, .string q, .bool f])).run Tryz.prog W = .ok (decide (Per.mk a p d = ⟨b, q, f⟩)) W := by
  rw [dec_perQ]
  cases h1 : a.toList == b.toList <;> cases h2 : p.toList == q.toList <;> cases h3 : d == f <;> go_simp <;> simp_all
theorem run_eqR (x y : Per) (W : World) : (Go.binOp .eql 36 (perV x) (perV y)).run Tryz.prog W = .ok (.bool (decide (x = y))) W := by
  obtain ⟨a, p, d⟩ := x
  obtain ⟨b, q, f⟩ := y
  unfold perV
  rw [run_eql_struct, equalIn_R]; rfl
theorem run_neqR (x y : Per) (W : World) : (Go.binOp .neq 36 (perV x) (perV y)).run Tryz.prog W = .ok (.bool (!decide (x = y))) W := by
  obtain ⟨a, p, d⟩ := x
  obtain ⟨b, q, f⟩ := y
  unfold perV
  rw [run_neq_struct, equalIn_R]; rfl
theorem guardR (k : BinOp) (x y : Operand) (u v : Per) (W : World) : (eqGuard k 36 x y (perV u) (perV v)).run Tryz.prog W = .ok () W :=
  run_eqGuard_agg W k _ x y _ _ (by kernel_rfl)

theorem wpList_opQ {P : Program} {w : World} {ops : Array Oper} {rest : List Oper} {o : Oper} {a : Act} {Q : Exit → Act → World → Prop} (hg : o.guard = none) (k : BinOp) (T T' : TypeId) (x y : Operand)
    (ho : o.op = .binOp k T x y T') (u v r : Value) (hx : a.eval x = u) (hy : a.eval y = v) (he : ∀ W, (eqGuard k T x y u v).run P W = .ok () W) (hr : ∀ W, (Go.binOp k T u v).run P W = .ok r W)
    (h : wpList P ops Q rest (a.put o.dst r) w) : wpList P ops Q (o :: rest) a w := by
  refine wpList_plain hg fun K hK => ?_
  unfold Oper.wp execOp
  simp only [ho, Sem.run_bind, Sem.run_pure, Result.andThen_ok, hx, hy, he, hr]
  exact hK _ _ h
/-- An append of permissions that read. -/
theorem append_persB_run {ts te : TypeId} (hu : Tryz.prog.underlying ts = some (.slice te)) (hie : (Tryz.prog.info? te).map (fun i => (i.zero, i.size, i.bytes)) = some (some (.agg #[.string ⟨#[]⟩, .string ⟨#[]⟩, .bool false]), 3, 40))
    {W : World} {B : Nat} {v y : Value} {xs ys : List Per} (h : OwnQ te B W v xs) (hy : Pers W y ys) (hl : xs.length + ys.length ≤ 1000000) (hB : B ≤ W.heap.size) :
    ∃ a c w', (Builtin.append_ #[ts, ts] ts #[v, y]).run Tryz.prog W = .ok (.slice a (xs ++ ys).length c) w' ∧ OwnQ te B w' (.slice a (xs ++ ys).length c) (xs ++ ys) ∧ Kept (fun k => v.ownBlock = some k) W w' ∧ ((Value.slice a (xs ++ ys).length c).ownBlock = v.ownBlock ∨ (Value.slice a (xs ++ ys).length c).ownBlock = some W.heap.size) := by
  obtain ⟨i0, hi, hz0, hz1, hz2⟩ := info_parts hie
  have key : ∃ v' w', (Builtin.append_ #[ts, ts] ts #[v, y]).run Tryz.prog W = .ok v' w' ∧ OwnQ te B w' v' (xs ++ ys) ∧ Kept (fun k => v.ownBlock = some k) W w' ∧ (v'.ownBlock = v.ownBlock ∨ v'.ownBlock = some W.heap.size) := by
    have hy0 := hy
    rcases hy with ⟨rfl, rfl⟩ | ⟨g, off, cap, rfl, h1, h2, h3, h4⟩
    · exact ⟨v, W, run_append_owned_none W B ts ts te i0 3 hu hi v _ _ h, by rw [List.append_nil]; exact h, Kept.refl _ _, Or.inl rfl⟩
    · have hcells : ∀ j u, (flatQ ys)[j]? = some u → W.cell? ((⟨g, off, none⟩ : Addr).add j) = some u := fun j u hu => by
        have hadd : (⟨g, off, none⟩ : Addr).add j = ⟨g, off + j, none⟩ := by unfold Addr.add; split <;> simp_all
        rw [hadd]
        exact hy0.flat j u hu
      obtain ⟨v', w', hr, ho, hg, _, hat⟩ := run_append_own_at (P := Tryz.prog) W B ts ts te i0 _ 3 40 hu hi hz0 hz1 hz2 rfl (by omega) v xs.length (flatQ xs) h ⟨g, off, none⟩ ys.length cap (flatQ ys)
        (flatQ_length ys) hcells (flatQ_one ys) (by unfold maxLen; omega) (by omega) hB
      exact ⟨v', w', hr, by unfold OwnQ; rw [List.length_append, flatQ_append]; exact ho, Kept.ofGrown hg fun k e => e, hat⟩
  obtain ⟨v', w', hr, hf, hk, hat⟩ := key
  obtain ⟨a, c, rfl, _, _⟩ := hf.form
  exact ⟨a, c, w', hr, hf, hk, hat⟩


/-- An append of one permission to a row of the call's own. -/
theorem wpList_pushB {ts te : TypeId} (hu : Tryz.prog.underlying ts = some (.slice te)) (hie : (Tryz.prog.info? te).map (fun i => (i.zero, i.size, i.bytes)) = some (some (.agg #[.string ⟨#[]⟩, .string ⟨#[]⟩, .bool false]), 3, 40))
    {w : World} {ops : Array Oper} {rest : List Oper} {o : Oper} {a : Act} {Q : Exit → Act → World → Prop} (hw : Region.wanted o (yielded ops a.tmps) = true) (s x : Operand)
    (ho : o.op = .call { callee := .builtin .append, args := #[s, x], argTypes := #[ts, ts] }) (hty : o.type = ts) (B : Nat) (v : Value) (acc : List Per) (g : Nat) (z : Per) (hd : a.eval s = v) (hs : a.eval x = .slice (some ⟨g, 0, none⟩) 1 1)
    (hown : OwnQ te B w v acc) (hz : Bx w g z.a z.p z.d) (hl : acc.length ≤ 900000) (hB : B ≤ w.heap.size)
    (h : ∀ a' c' w', OwnQ te B w' (.slice a' (acc.length + 1) c') (acc ++ [z]) → Kept (fun k => v.ownBlock = some k) w w' → ((Value.slice a' (acc.length + 1) c').ownBlock = v.ownBlock ∨ (Value.slice a' (acc.length + 1) c').ownBlock = some w.heap.size) → wpList Tryz.prog ops Q rest (a.put o.dst (.slice a' (acc.length + 1) c')) w') : wpList Tryz.prog ops Q (o :: rest) a w := by
  obtain ⟨a', c', w', hr, hf, hk, hat⟩ := append_persB_run hu hie hown hz.pers (by simp; omega) hB
  rw [List.length_append] at hr hf hat
  exact wpList_appendQ_run hw s x _ _ ho _ _ hd hs (by rw [hty]; exact hr) (h _ _ _ hf hk hat)

end Go.Proofs.YtnnakllgfaaejaaGreatDoor
/-
  The reference's lists of permissions: Any, insert.
-/
namespace Go.Proofs.YtnnakllgfaaejaaGreatDoor
open Go.RowKit Go.Maps Go.WideMaps Go.ChangeMaps
set_option linter.unusedSimpArgs false
set_option linter.unusedVariables false
set_option maxRecDepth 100000

set_option maxHeartbeats 3200000 in
theorem rany_any (w0 : World) (v : Value) (l : List Per) (b s : ByteArray) (h : Pers w0 v l) (hb : bdQ l) (hs : s.size ≤ 100000) (hl : l.length ≤ 50000) :
    Calls Tryz.prog 14 #[v, .string b, .string s] w0 fun e w' => e = .returned (.bool (anyI l ⟨b, s, false⟩)) ∧ Kept (fun _ => False) w0 w' := by
  obtain ⟨la, lc, rfl, h1, h2⟩ := h.form
  have HV := Lib.hid h; have HBD := Lib.hid hb
  obtain ⟨N, hN⟩ : ∃ N, N = l.length := ⟨_, rfl⟩
  rw [← hN] at HV hl h1 ⊢
  have HN := Lib.hid hN
  obtain ⟨R, hR⟩ : ∃ R, R = anyI l ⟨b, s, false⟩ := ⟨_, rfl⟩
  rw [← hR]
  have HR := Lib.hid hR
  unfold maxLen at h2
  have HI0 : Hid (anyI (l.take 0) ⟨b, s, false⟩ = false) := Lib.hid (by simp [anyI])
  clear h hb hN hR
  go_enter Tryz.func14, Tryz.ntmps14
  go_wp2_with fail
  go_loopw [8, 11] (fun _ iv wr => ∃ (k : Nat), k ≤ N ∧ iv = .int .i64 (k : Int) ∧ Hid (anyI (l.take k) ⟨b, s, false⟩ = false) ∧ Hid (Kept (fun _ => False) w0 wr)) (fun _ iv _ => N - (intOf iv).toNat)
  case atStart => exact ⟨0, Nat.zero_le _, rfl, HI0, Lib.hid (Kept.refl _ _)⟩
  case round =>
    obtain ⟨k, hk, rfl, hno, hkw⟩ := hrel
    clear HI0
    by_cases hlt : k < N
    · have l1 : (k : Int) < (N : Int) := by omega
      have l0 : (0 : Int) ≤ (k : Int) := by omega
      have hkl : k < l.length := by have := HN.out; omega
      obtain ⟨g, off, rfl, hg, hc⟩ := (HV.out.kept hkw.out (fun _ _ h => h)).at (k := k) hkl
      have hbx := HBD.out _ (getD_mem l k hkl)
      have hnx := any_nextI l k hkl ⟨b, s, false⟩
      rw [hno.out, Bool.false_or] at hnx
      have hin : impP (l.getD k per0) ⟨b, s, false⟩ = true → R = true := fun hh => by rw [HR.out]; exact (anyI_iff _ _).2 ⟨_, getD_mem l k hkl, hh⟩
      generalize l.getD k per0 = x at hc hbx hnx hin
      have HE := Lib.hid (fun W => rcov_any x b s hbx.2 hs W)
      unfold covP at HE
      generalize impP x ⟨b, s, false⟩ = V at HE hnx hin
      obtain ⟨xa, xp, xd⟩ := x
      unfold perV at HE
      obtain ⟨c0, c1, c2⟩ := hc
      simp only at c0 c1 c2 HE
      have HNX := Lib.hid hnx; have HIN := Lib.hid hin
      have HKW := Lib.hid (hkw.out.then (Kept.alloc (fun _ => False) wr (.cells #[.string xa, .string xp, .bool xd] 36)))
      clear hnx hbx hg hkw hno hin
      go_wp2_with fail
      refine (HE.out _).mono ?_
      clear c0 c1 c2
      generalize wr.alloc (.cells #[.string xa, .string xp, .bool xd] 36) = W1 at *
      generalize wr.heap.size = Q at *
      rintro e w3 ⟨rfl, k3⟩
      have HKW3 := Lib.hid (HKW.out.then k3)
      clear k3 HE HKW
      cases V with
      | false =>
        go_wp2_with fail
        go_roundw
        case rel => exact ⟨k + 1, by omega, by go_num, HNX, HKW3⟩
        case measure => simp [intOf]; omega
      | true =>
        obtain rfl := HIN.out rfl
        go_wp2_with fail
        go_ret
        exact ⟨rfl, HKW3.out⟩
    · obtain rfl : k = N := by omega
      have hrf : R = false := by
        have := hno.out
        rw [HN.out, List.take_length] at this
        rw [HR.out]; exact this
      subst hrf
      go_wp2_with fail
      go_ret
      exact ⟨rfl, hkw.out⟩

end Go.Proofs.YtnnakllgfaaejaaGreatDoor
/-
  The reference's lists of permissions: insert.
-/
namespace Go.Proofs.YtnnakllgfaaejaaGreatDoor
open Go.RowKit Go.Maps Go.WideMaps Go.ChangeMaps
set_option linter.unusedSimpArgs false
set_option linter.unusedVariables false
set_option maxRecDepth 100000

/-- What insert has made after k rounds. -/
structure InInv (w wr : World) (v : Value) (acc : List Per) (d : Bool) (x : Per) (l : List Per) (k : Nat) : Prop where
  row : OwnQ 36 w.heap.size wr v acc
  eq : acc = insT x l k (insD x l k)
  de : d = insD x l k
  no : x ∉ l.take k
  kept : Kept (fun _ => False) w wr
theorem insT_len (x : Per) (l : List Per) (k : Nat) (d : Bool) (h : k ≤ l.length) : (insT x l k d).length ≤ k + 1 := by
  unfold insT
  split
  · rw [insG_len, List.length_take]; omega
  · rw [List.length_take]; omega
theorem ne_eqs {xa xp ya yp : ByteArray} {xd yd : Bool} (h : Per.mk ya yp yd ≠ ⟨xa, xp, xd⟩) : ((ya.toList == xa.toList) = false) ∨ ((ya.toList == xa.toList) = true ∧ (yp.toList == xp.toList) = false) ∨ ((ya.toList == xa.toList) = true ∧ (yp.toList == xp.toList) = true ∧ (yd == xd) = false) := by
  have h2 := decide_eq_false h
  rw [dec_perQ] at h2
  revert h2
  cases ya.toList == xa.toList <;> cases yp.toList == xp.toList <;> cases yd == xd <;> simp
set_option maxHeartbeats 6400000 in
theorem rinsert_any (w0 : World) (v : Value) (l : List Per) (x : Per) (B : Nat) (h : OwnQ 36 B w0 v l) (hb : bdQ l) (hx : x.p.size ≤ 100000) (hl : l.length ≤ 10000) (hB : B ≤ w0.heap.size) :
    Calls Tryz.prog 31 #[v, perV x] w0 fun e w' => ∃ a c, e = .returned (.slice a (insP l x).length c) ∧ OwnQ 36 B w' (.slice a (insP l x).length c) (insP l x) ∧ Kept (fun _ => False) w0 w' := by
  obtain ⟨la, lc, rfl, h1, h2⟩ := h.form
  have HBD := Lib.hid hb
  have HCM := Lib.hid (fun y (hy : y ∈ l) W => rcmp_any x y hx (hb y hy).2 W)
  obtain ⟨N, hN⟩ : ∃ N, N = l.length := ⟨_, rfl⟩
  obtain ⟨R, hR⟩ : ∃ R, R = insP l x := ⟨_, rfl⟩
  rw [← hR]
  have HRR := Lib.hid hR
  have hka : Kept (fun _ => False) w0 (w0.alloc (.cells #[.string x.a, .string x.p, .bool x.d] 36)) := Kept.alloc _ _ _
  have hrow := h.kept hka (fun _ _ h => h)
  rw [← hN] at hrow hl h1 ⊢
  have HBX := Lib.hid (Bx.new w0 x.a x.p x.d 36)
  have HROW := Lib.hid hrow
  have HN := Lib.hid hN
  have HKA := Lib.hid hka
  have HX := Lib.hid (rfl : x = x)
  obtain ⟨X, hX⟩ : ∃ X, X = x := ⟨_, rfl⟩
  have HXX := Lib.hid hX
  obtain ⟨xa, xp, xd⟩ := x
  simp only at HBX HROW HKA
  unfold perV at *
  rw [← hX] at HRR
  unfold maxLen at h2
  clear h hb hN hR hka hrow hx HX hX
  go_enter Tryz.func31, Tryz.ntmps31
  go_wp2_with fail
  have HBW : Hid (B ≤ (w0.alloc (.cells #[.string xa, .string xp, .bool xd] 36)).heap.size) := Lib.hid (Nat.le_trans hB HKA.out.size)
  generalize w0.alloc (.cells #[.string xa, .string xp, .bool xd] 36) = w at *
  obtain ⟨Q, hQ⟩ : ∃ Q, Q = w0.heap.size := ⟨_, rfl⟩
  rw [← hQ] at HBX ⊢
  clear hB hQ
  have HI0 : Hid (InInv w w (.slice none 0 0) [] false X l 0) := Lib.hid ⟨OwnQ.nil _ _ _, by simp [insT, insD], by simp [insD], by simp, Kept.refl _ _⟩
  go_loopw [5, 6, 8, 11] (fun ov dv _ iv wr => ∃ (k : Nat) (a : Option Addr) (c : Nat) (acc : List Per) (d : Bool), k ≤ N ∧ iv = .int .i64 (k : Int) ∧ dv = .bool d ∧ ov = .slice a acc.length c ∧ Hid (InInv w wr (.slice a acc.length c) acc d X l k)) (fun _ _ _ iv _ => N - (intOf iv).toNat)
  case atStart => exact ⟨0, none, 0, [], false, Nat.zero_le _, rfl, rfl, rfl, HI0⟩
  case round =>
    obtain ⟨k, a, c, acc, d, hk, rfl, rfl, rfl, hI⟩ := hrel
    clear HI0
    have hal : acc.length ≤ 20000 := by
      have h9 := insT_len X l k (insD X l k) (by have := HN.out; omega)
      rw [← hI.out.eq] at h9
      omega
    by_cases hlt : k < N
    · have l1 : (k : Int) < (N : Int) := by omega
      have l0 : (0 : Int) ≤ (k : Int) := by omega
      have hkl : k < l.length := by have := HN.out; omega
      obtain ⟨g, off, rfl, hg, hc⟩ := (HROW.out.pers.kept hI.out.kept (fun _ _ h => h)).at (k := k) hkl
      have hyl := getD_mem l k hkl
      have HC := Lib.hid (fun W => HCM.out _ hyl W)
      obtain ⟨hn1, hn2⟩ := insT_next X l k hkl
      rw [← hI.out.eq, ← hI.out.de] at hn1
      rw [← hI.out.de] at hn2
      have hno2 : X ≠ l.getD k per0 → X ∉ l.take (k + 1) := fun hne hm => by
        rw [take_one l k hkl, List.mem_append] at hm
        exact hm.elim hI.out.no fun e => hne (by simpa using e)
      have HXE := HXX
      rw [← HXX.out] at HC
      generalize l.getD k per0 = y at hc hyl HC hn1 hn2 hno2
      have HNO := Lib.hid hno2
      have HYL := Lib.hid hyl
      have HBXw := Lib.hid (HBX.out.stay hI.out.kept)
      obtain ⟨ya, yp, yd⟩ := y
      obtain ⟨c0, c1, c2⟩ := hc
      simp only at c0 c1 c2 HC
      have HBY := Lib.hid (Bx.new wr ya yp yd 36)
      have hka : Kept (fun _ => False) wr (wr.alloc (.cells #[.string ya, .string yp, .bool yd] 36)) := Kept.alloc _ _ _
      have HBX2 := Lib.hid (HBXw.out.stay hka)
      have HR2 := Lib.hid (hI.out.row.kept hka (fun _ _ h => h))
      have HKW := Lib.hid (hI.out.kept.then hka)
      have HN1 := Lib.hid hn1; have HN2 := Lib.hid hn2
      have hQ2 : Q < wr.heap.size := World.block_lt_of_cell? wr _ HBXw.out.c0
      have HQW := Lib.hid (World.block_lt_of_cell? w _ HBX.out.c0)
      have HWW := Lib.hid hI.out.kept.size
      have HLT : Hid (∀ j, (Value.slice a acc.length c).ownBlock = some j → w.heap.size ≤ j ∧ j < wr.heap.size) := Lib.hid fun j hj => hI.out.row.lt j hj
      have HS1 : Hid ((wr.alloc (.cells #[.string ya, .string yp, .bool yd] 36)).heap.size = wr.heap.size + 1) := Lib.hid (by simp)
      clear hg hka hI hn1 hn2 hno2 hyl HBXw
      have HEQ := Lib.hid (fun W => run_eqR ⟨ya, yp, yd⟩ ⟨xa, xp, xd⟩ W)
      have HGD := Lib.hid (fun x y W => guardR .eql x y ⟨ya, yp, yd⟩ ⟨xa, xp, xd⟩ W)
      unfold perV at HEQ HGD
      rw [← HXX.out] at HEQ
      obtain ⟨b0, b1, b2⟩ := HBX2.out
      obtain ⟨d0, d1, d2⟩ := HBY.out
      by_cases he : Per.mk ya yp yd = X
      · have hin : X ∈ l := by rw [← he]; exact HYL.out
        have hR : R = l := by rw [HRR.out]; unfold insP; rw [if_pos hin]
        rw [he, decide_eq_true rfl] at HEQ
        have hRN : R.length = N := by rw [hR]; exact HN.out.symm
        have HRES := Lib.hid (HROW.out.kept HKW.out (fun _ _ h => h))
        have HKE := Lib.hid (HKA.out.then HKW.out)
        have HRNH := Lib.hid hRN; have HRL := Lib.hid hR
        have HE3 : Hid (ya = xa ∧ yp = xp ∧ yd = xd) := Lib.hid (by rw [HXX.out] at he; injection he with e1 e2 e3; exact ⟨e1, e2, e3⟩)
        clear he hR hRN HC HN1 HN2 HNO HEQ HGD
        obtain ⟨e1, e2, e3⟩ : ya = xa ∧ yp = xp ∧ yd = xd := HE3.out
        subst e1 e2 e3
        go_wp2_with fail
        go_ret
        exact ⟨some ⟨g, off, none⟩, lc, by rw [HRNH.out]; rfl, by rw [HRNH.out, HRL.out]; exact HRES.out, HKE.out⟩
      · have HNO2 := Lib.hid (HNO.out (fun e => he e.symm))
        have hcs := ne_eqs (fun e => he (by rw [HXX.out]; exact e))
        clear HNO he HEQ HGD
        cases d with
        | true =>
          have hn2' := HN2.out
          rw [Bool.true_or] at hn2'
          have hn1' := HN1.out
          rw [if_pos rfl] at hn1'
          have HM1 := Lib.hid hn1'; have HM2 := Lib.hid hn2'
          clear HN1 HN2 hn1' hn2' HC
          have HB2 : Hid (Bx ((wr.alloc (.cells #[.string ya, .string yp, .bool yd] 36)).alloc (.cells #[.string ya, .string yp, .bool yd] 36)) (wr.heap.size + 1) ya yp yd) := Lib.hid (by have := Bx.new (wr.alloc (.cells #[.string ya, .string yp, .bool yd] 36)) ya yp yd 36; rw [HS1.out] at this; exact this)
          have hww := HWW.out
          rcases hcs with q1 | ⟨q1, q2⟩ | ⟨q1, q2, q3⟩
          all_goals
           go_wp2_with (first
            | (at_builtin; refine wpList_pushQ Tryz.underlying28 info_perR (by rfl) _ _ rfl rfl w.heap.size _ acc (wr.heap.size + 1) ⟨ya, yp, yd⟩ rfl rfl (HR2.out.alloc _) HB2.out (by omega) (by simp; omega) ?_; intro a' c' w4 hown4 hk4; have HOWN4 := Lib.hid hown4; have HKK4 := Lib.hid hk4; clear hown4 hk4)
            | fail)
           have hka : Kept (fun _ => False) (wr.alloc (.cells #[.string ya, .string yp, .bool yd] 36)) ((wr.alloc (.cells #[.string ya, .string yp, .bool yd] 36)).alloc (.cells #[.string ya, .string yp, .bool yd] 36)) := Kept.alloc _ _ _
           have hI2 : Hid (InInv w w4 (.slice a' (acc ++ [Per.mk ya yp yd]).length c') (acc ++ [⟨ya, yp, yd⟩]) true X l (k + 1)) :=
             Lib.hid ⟨by rw [List.length_append]; exact HOWN4.out, HM1.out.symm, HM2.out.symm, HNO2.out, (HKW.out.then hka).trans HKK4.out (fun _ _ h => h) (fun i hi e => by have := (HLT.out i e).1; omega)⟩
           clear hka
           go_roundw
           case rel => exact ⟨k + 1, a', c', acc ++ [Per.mk ya yp yd], true, by omega, by go_num, rfl, by rw [List.length_append]; rfl, hI2⟩
           case measure => simp [intOf]; omega
        | false =>
          have hn2' := HN2.out
          rw [Bool.false_or] at hn2'
          have hn1' := HN1.out
          rw [if_neg (by decide)] at hn1'
          by_cases hneg : cmpP X ⟨ya, yp, yd⟩ < 0
          · rw [if_pos hneg] at hn1'
            rw [decide_eq_true hneg] at hn2'
            generalize cmpP X ⟨ya, yp, yd⟩ = C at HC hneg
            have HM1 := Lib.hid hn1'; have HM2 := Lib.hid hn2'
            clear HN1 HN2 hn1' hn2'
            rcases hcs with q1 | ⟨q1, q2⟩ | ⟨q1, q2, q3⟩
            all_goals
             go_wp2_with (first
               | (go_at_call 47; refine (HC.out _).mono ?_
                  generalize wr.alloc (.cells #[.string ya, .string yp, .bool yd] 36) = W1 at *
                  generalize wr.heap.size = Q1 at *
                  rintro e w3 ⟨rfl, k3⟩
                  clear b0 b1 b2 d0 d1 d2
                  obtain ⟨b0, b1, b2⟩ := HBX2.out.stay k3
                  obtain ⟨d0, d1, d2⟩ := HBY.out.stay k3
                  have HBY3 := Lib.hid (HBY.out.stay k3)
                  have HR3 := Lib.hid (HR2.out.kept k3 (fun _ _ h => h))
                  have HK3 := Lib.hid (HKW.out.then k3)
                  have HSZ3 := Lib.hid k3.size
                  clear k3 HC)
               | (at_builtin; refine wpList_pushQ Tryz.underlying28 info_perR (by rfl) _ _ rfl rfl w.heap.size _ acc w3.heap.size ⟨xa, xp, xd⟩ rfl rfl (HR3.out.alloc _) (Bx.new w3 xa xp xd 36) (by omega) (by have := HK3.out.size; simp; omega) ?_; intro a' c' w4 hown4 hk4; have HOWN4 := Lib.hid hown4; have HKK4 := Lib.hid hk4; clear hown4 hk4
                  clear b0 b1 b2 d0 d1 d2
                  have HK4 : Hid (Kept (fun _ => False) w w4) := Lib.hid ((HK3.out.then (Kept.alloc _ _ (.cells #[.string xa, .string xp, .bool xd] 36))).trans HKK4.out (fun _ _ h => h) (fun i hi e => by have := (HLT.out i e).1; omega))
                  obtain ⟨d0, d1, d2⟩ := (HBY3.out.stay (Kept.alloc _ _ (.cells #[.string xa, .string xp, .bool xd] 36))).kept HKK4.out (fun e => by have := (HLT.out _ e).2; omega)
                  have HOW5 : Hid (OwnQ 36 w.heap.size (w4.alloc (.cells #[.string ya, .string yp, .bool yd] 36)) (.slice a' (acc.length + 1) c') (acc ++ [⟨xa, xp, xd⟩])) := Lib.hid (HOWN4.out.alloc _)
                  skip)
               | (at_builtin; refine wpList_pushQ Tryz.underlying28 info_perR (by rfl) _ _ rfl rfl w.heap.size _ (acc ++ [Per.mk xa xp xd]) w4.heap.size ⟨ya, yp, yd⟩ rfl rfl HOW5.out (Bx.new w4 ya yp yd 36) (by simp; omega) (by have := HK4.out.size; simp; omega) ?_; intro a6 c6 w6 hown6 hk6; have HOWN6 := Lib.hid hown6; have HKK6 := Lib.hid hk6; clear hown6 hk6)
               | fail)
             have hka : Kept (fun _ => False) w4 (w4.alloc (.cells #[.string ya, .string yp, .bool yd] 36)) := Kept.alloc _ _ _
             have hI2 : Hid (InInv w w6 (.slice a6 (acc ++ [Per.mk xa xp xd] ++ [Per.mk ya yp yd]).length c6) (acc ++ [Per.mk xa xp xd] ++ [⟨ya, yp, yd⟩]) true X l (k + 1)) :=
               Lib.hid ⟨by rw [List.length_append]; exact HOWN6.out, by rw [← HXX.out]; exact HM1.out.symm, HM2.out.symm, HNO2.out, (HK4.out.then hka).trans HKK6.out (fun _ _ h => h) (fun i hi e => by have := (HOW5.out.lt i e).1; omega)⟩
             clear hka
             go_roundw
             case rel => exact ⟨k + 1, a6, c6, acc ++ [Per.mk xa xp xd] ++ [Per.mk ya yp yd], true, by omega, by go_num, rfl, by rw [List.length_append, List.length_append]; rfl, hI2⟩
             case measure => simp [intOf]; omega
          · rw [if_neg hneg] at hn1'
            rw [decide_eq_false hneg] at hn2'
            generalize cmpP X ⟨ya, yp, yd⟩ = C at HC hneg
            have HM1 := Lib.hid hn1'; have HM2 := Lib.hid hn2'
            clear HN1 HN2 hn1' hn2'
            rcases hcs with q1 | ⟨q1, q2⟩ | ⟨q1, q2, q3⟩
            all_goals
             go_wp2_with (first
               | (go_at_call 47; refine (HC.out _).mono ?_
                  generalize wr.alloc (.cells #[.string ya, .string yp, .bool yd] 36) = W1 at *
                  generalize wr.heap.size = Q1 at *
                  rintro e w3 ⟨rfl, k3⟩
                  clear b0 b1 b2 d0 d1 d2
                  obtain ⟨d0, d1, d2⟩ := HBY.out.stay k3
                  have HR3 := Lib.hid (HR2.out.kept k3 (fun _ _ h => h))
                  have HK3 := Lib.hid (HKW.out.then k3)
                  clear k3 HC)
               | (at_builtin; refine wpList_pushQ Tryz.underlying28 info_perR (by rfl) _ _ rfl rfl w.heap.size _ acc w3.heap.size ⟨ya, yp, yd⟩ rfl rfl (HR3.out.alloc _) (Bx.new w3 ya yp yd 36) (by omega) (by have := HK3.out.size; simp; omega) ?_; intro a' c' w4 hown4 hk4; have HOWN4 := Lib.hid hown4; have HKK4 := Lib.hid hk4; clear hown4 hk4)
               | fail)
             have hka : Kept (fun _ => False) w3 (w3.alloc (.cells #[.string ya, .string yp, .bool yd] 36)) := Kept.alloc _ _ _
             have hI2 : Hid (InInv w w4 (.slice a' (acc ++ [Per.mk ya yp yd]).length c') (acc ++ [⟨ya, yp, yd⟩]) false X l (k + 1)) :=
               Lib.hid ⟨by rw [List.length_append]; exact HOWN4.out, HM1.out.symm, HM2.out.symm, HNO2.out, (HK3.out.then hka).trans HKK4.out (fun _ _ h => h) (fun i hi e => by have := (HLT.out i e).1; omega)⟩
             clear hka
             go_roundw
             case rel => exact ⟨k + 1, a', c', acc ++ [Per.mk ya yp yd], false, by omega, by go_num, rfl, by rw [List.length_append]; rfl, hI2⟩
             case measure => simp [intOf]; omega
    · obtain rfl : k = N := by omega
      have hno : X ∉ l := by
        have := hI.out.no
        rw [HN.out, List.take_length] at this
        exact this
      have hRg : R = insG X l := by rw [HRR.out]; unfold insP; rw [if_neg hno]
      have he := insT_end X l
      rw [← HN.out, ← hI.out.de] at he
      have heq := hI.out.eq
      rw [← hI.out.de] at heq
      have HLT : Hid (∀ j, (Value.slice a acc.length c).ownBlock = some j → w.heap.size ≤ j) := Lib.hid fun j hj => (hI.out.row.lt j hj).1
      cases d with
      | true =>
        rw [if_pos rfl, ← heq, ← hRg] at he
        subst he
        have HRES := Lib.hid (hI.out.row.low HBW.out)
        have HKE := Lib.hid (HKA.out.then hI.out.kept)
        clear heq hRg hno hI HRR
        go_wp2_with fail
        go_ret
        exact ⟨_, _, rfl, HRES.out, HKE.out⟩
      | false =>
        have ha : acc = l := by rw [heq]; unfold insT; rw [if_neg (by decide), HN.out, List.take_length]
        rw [if_neg (by decide), ← hRg, ← ha] at he
        obtain ⟨b0, b1, b2⟩ := HBX.out.stay hI.out.kept
        have HER := Lib.hid he
        have HR3 := Lib.hid hI.out.row
        have HK3 := Lib.hid hI.out.kept
        have hxe : Per.mk xa xp xd = X := HXX.out.symm
        have HXE := Lib.hid hxe
        clear heq hRg hno hI HRR he ha hxe
        go_wp2_with (first
          | (at_builtin; refine wpList_pushQ Tryz.underlying28 info_perR (by rfl) _ _ rfl rfl w.heap.size _ acc wr.heap.size ⟨xa, xp, xd⟩ rfl rfl (HR3.out.alloc _) (Bx.new wr xa xp xd 36) (by omega) (by have := HK3.out.size; simp; omega) ?_; intro a' c' w4 hown4 hk4; have HOWN4 := Lib.hid hown4; have HKK4 := Lib.hid hk4; clear hown4 hk4)
          | fail)
        have HKE : Hid (Kept (fun _ => False) w0 w4) := Lib.hid (HKA.out.then ((HK3.out.then (Kept.alloc _ _ (.cells #[.string xa, .string xp, .bool xd] 36))).trans HKK4.out (fun _ _ h => h) (fun i hi e => by have := HLT.out i e; omega)))
        have HRL : Hid (R.length = acc.length + 1) := Lib.hid (by rw [HER.out]; simp)
        go_ret
        exact ⟨a', c', by rw [HRL.out]; rfl, by rw [HRL.out, HER.out, ← HXE.out]; exact HOWN4.out.low HBW.out, HKE.out⟩
end Go.Proofs.YtnnakllgfaaejaaGreatDoor
