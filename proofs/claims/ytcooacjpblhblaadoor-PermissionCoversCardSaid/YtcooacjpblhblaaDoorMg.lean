/- The first texts of this claim, one behind the other. -/
import Derived.Test.YtcooacjpblhblaaDoorPaTh
import Derived.Test.YtcooacjpblhblaaDoorPmK
import Derived.Test.YtcooacjpblhblaaDoorPmA
import Derived.Shelf.SlSortCmp.NoneTotal
import Derived.Shelf.Strings.Prefix
import Derived.Shelf.Small.Wraps
import Derived.BigQuiet
import Derived.Deep.RegionHeld3
import Derived.Test.YtcooacjpblhblaaDoorNamV
import Derived.Maps.Own
import Derived.Maps.OwnSet
import Derived.Maps.OwnOps
import Derived.Maps.RangeWalk
import Derived.Maps.Ext
import Derived.Laws.BytesArg
import Derived.StillTailTactics
import Derived.Deep.AppendLies
import Derived.Test.YtcooacjpblhblaaDoorNamU
import Derived.Lib.SmallJoins
import Derived.Test.YtcooacjpblhblaaDoorMake
import Derived.Test.YtcooacjpblhblaaDoorWriter
import Derived.Test.YtcooacjpblhblaaDoorPmR
import Derived.Test.YtcooacjpblhblaaDoorPmMk
import Derived.Test.YtcooacjpblhblaaDoorPaLo
import Derived.OpenShut
import Derived.ChangeMaps5
/-
  Trees of paths: Children, Has, Remove (its errors).
-/
namespace Go.Proofs.YtcooacjpblhblaaDoor
open Go.RowKit Go.Maps Go.WideMaps Go.ChangeMaps
set_option linter.unusedSimpArgs false
set_option linter.unusedVariables false

/-- Whether q's parent is p. -/
def keepCh (p q : ByteArray) : Bool := ((parentS q).getD ⟨#[]⟩).toList == p.toList

/-- A look-up whose run is known, asked for or not (a guard that holds). -/
theorem wpList_lookup_run {P : Program} {w : World} {ops : Array Oper} {rest : List Oper} {o : Oper} {a : Act} {Q : Exit → Act → World → Prop} (hw : Region.wanted o (yielded ops a.tmps) = true) (m x : Operand) (t : TypeId)
    (ho : o.op = Op.lookup t m x false) (mv key : Value) (hm : a.eval m = mv) (hx : a.eval x = key) {v : Value} {w' : World} (hr : (Instr.lookup t mv key false).run P w = .ok v w') (h : wpList P ops Q rest (a.put o.dst v) w') : wpList P ops Q (o :: rest) a w := by
  refine wpList_step fun K hK => ?_
  rw [if_pos hw]
  unfold Oper.wp
  simp [execOp, ho, hm, hx, hr, Result.andThen]
  exact hK _ _ h

/-- Whether a tree has a path. -/
def hasS (ts : List ByteArray) (p : ByteArray) : Bool := (p.toList == [47]) || memS p ts

end Go.Proofs.YtcooacjpblhblaaDoor
/-
  Permissions: the set of a list (a map), and what it is asked.
-/
namespace Go.Proofs.YtcooacjpblhblaaDoor
open Go.RowKit Go.Maps Go.WideMaps Go.ChangeMaps
set_option linter.unusedSimpArgs false
set_option linter.unusedVariables false

set_option maxRecDepth 100000 in
theorem mk_hintQ (W : World) (c : Int) : (Instr.makeMap 72 (some (.int .i64 c))).run Tryd.prog W = .ok (.map (some W.heap.size)) (W.alloc (.map #[] 0)) := by
  unfold Instr.makeMap
  simp only [Sem.run_bind, run_underlying Tryd.underlying72, Result.andThen_ok]
  rfl
set_option maxRecDepth 100000 in
theorem map_lookQ {w : World} {m n : Nat} {D : DataW Unit} {M : Per → Bool} (h : OwnMQ w m n D) (hM : MapQ D M) (x : Per) (hx : smallQ x) :
    (Instr.lookup 72 (.map (some m)) (perV x) false).run Tryd.prog w = .ok (.bool (M x)) w := by
  obtain ⟨v, ps, hrun, hv⟩ := h.lookup lawQ Tryd.underlying72 (zeroBl w) (pl_bool false) (key_mkQ x hx.1 hx.2)
  rw [(hM x hx).2] at hv
  obtain ⟨y, rfl, hy⟩ := pl_bool_inv hv
  injection hy with h1 h2
  injection h1 with h1
  injection h1 with h1
  rw [hrun, ← h1]
/-- Permissions of a size that can be walked. -/
def bdQ (l : List Per) : Prop := ∀ x ∈ l, x.a.size ≤ 1000000 ∧ x.p.size ≤ 100000
theorem bdQ_small {l : List Per} (h : bdQ l) {x : Per} (hx : x ∈ l) : smallQ x := by
  have := h x hx
  unfold smallQ maxLen
  omega
theorem take_one (l : List Per) (k : Nat) (h : k < l.length) : l.take (k + 1) = l.take k ++ [l.getD k per0] := by
  rw [List.take_add_one, List.getD_eq_getElem?_getD, List.getElem?_eq_getElem h]
  rfl
theorem getD_mem (l : List Per) (k : Nat) (h : k < l.length) : l.getD k per0 ∈ l := by
  rw [List.getD_eq_getElem?_getD, List.getElem?_eq_getElem h]
  exact List.getElem_mem h

/-- The map after k rounds. -/
structure SetInv (w wr : World) (m k : Nat) (l : List Per) : Prop where
  map : ∃ n D, OwnMQ wr m n D ∧ MapQ D (memP (l.take k)) ∧ IsMap D ∧ n ≤ k
  kept : Kept (fun _ => False) w wr
theorem memP_yes {l : List Per} {k : Nat} (hk : k < l.length) (h : okP (l.getD k per0) = true) : memP (l.take (k + 1)) = fun x => decide (x = l.getD k per0) || memP (l.take k) x := by
  funext x
  rw [Bool.eq_iff_iff, Bool.or_eq_true, memP_iff, memP_iff, take_one l k hk, List.mem_append, List.mem_singleton, decide_eq_true_eq]
  constructor
  · rintro ⟨a | a, b⟩
    · exact Or.inr ⟨a, b⟩
    · exact Or.inl a
  · rintro (a | ⟨a, b⟩)
    · exact ⟨Or.inr a, by rw [a]; exact h⟩
    · exact ⟨Or.inl a, b⟩
theorem memP_no {l : List Per} {k : Nat} (hk : k < l.length) (h : okP (l.getD k per0) = false) : memP (l.take (k + 1)) = memP (l.take k) := by
  funext x
  rw [Bool.eq_iff_iff, memP_iff, memP_iff, take_one l k hk, List.mem_append, List.mem_singleton]
  constructor
  · rintro ⟨a | a, b⟩
    · exact ⟨a, b⟩
    · rw [a, h] at b; cases b
  · rintro ⟨a, b⟩; exact ⟨Or.inl a, b⟩

set_option maxRecDepth 100000 in
set_option maxHeartbeats 3200000 in
theorem setOf_any (w : World) (v : Value) (l : List Per) (h : Pers w v l) (hb : bdQ l) (hl : l.length ≤ 100000) :
    Calls Tryd.prog 45 #[v] w fun e w' => ∃ m n D, e = .returned (.map (some m)) ∧ OwnMQ w' m n D ∧ MapQ D (memP l) ∧ n ≤ l.length ∧ w.heap.size ≤ m ∧ Kept (fun _ => False) w w' := by
  obtain ⟨a, c, rfl, h1, h2⟩ := h.form
  have HV := Lib.hid h; have HBD := Lib.hid hb
  obtain ⟨N, hN⟩ : ∃ N, N = l.length := ⟨_, rfl⟩
  rw [← hN] at HV hl h1 ⊢
  have HN := Lib.hid hN
  unfold maxLen at h2
  have hmm := mk_hintQ
  have HI0 : Hid (SetInv w (w.alloc (.map #[] 0)) w.heap.size 0 l) := Lib.hid ⟨⟨0, _, World.ownsMap_made (H := Unit) w Tryd.prog 27 (plainElem Tryd.prog 4), (by
    have : memP (l.take 0) = fun _ => false := by funext x; unfold memP; simp
    rw [this]; exact MapQ.nil), ⟨[], rfl⟩, Nat.le_refl _⟩, Kept.alloc _ _ _⟩
  clear h hb hN
  go_enter Tryd.func45, Tryd.ntmps45
  go_wp2_with fail
  go_loopw [5, 11] (fun _ iv wr => ∃ k : Nat, k ≤ N ∧ iv = .int .i64 (k : Int) ∧ Hid (SetInv w wr w.heap.size k l)) (fun _ iv _ => N - (intOf iv).toNat)
  case atStart => exact ⟨0, Nat.zero_le _, rfl, HI0⟩
  case round =>
    obtain ⟨k, hk, rfl, hI⟩ := hrel
    clear HI0
    by_cases hlt : k < N
    · have l1 : (k : Int) < (N : Int) := by omega
      have l0 : (0 : Int) ≤ (k : Int) := by omega
      have hkl : k < l.length := by have := HN.out; omega
      obtain ⟨g, off, rfl, hg, hc⟩ := (HV.out.kept hI.out.kept (fun _ _ h => h)).at (k := k) hkl
      have hbx := HBD.out _ (getD_mem l k hkl)
      have hyes := fun h => memP_yes (l := l) hkl h
      have hno := fun h => memP_no (l := l) hkl h
      have hsm : smallQ (l.getD k per0) := bdQ_small HBD.out (getD_mem l k hkl)
      generalize hx : l.getD k per0 = x at hc hbx hyes hno hsm
      have HC := Lib.hid (fun W => pok_any x (by omega) W)
      obtain ⟨xa, xp, xd⟩ := x
      unfold perV at HC
      obtain ⟨c0, c1, c2⟩ := hc
      simp only at c0 c1 c2
      have HBX := Lib.hid (Bx.new wr xa xp xd 27)
      have HK1 := Lib.hid (hI.out.kept.then (Kept.alloc (fun _ => False) wr (.cells #[.string xa, .string xp, .bool xd] 27)))
      have hkal := Kept.alloc (fun _ => False) wr (.cells #[.string xa, .string xp, .bool xd] 27)
      have HM := Lib.hid hI.out.map
      have HYES := Lib.hid hyes; have HNO := Lib.hid hno; have HSM := Lib.hid hsm; have HX := Lib.hid hx
      have HKAL := Lib.hid hkal
      obtain ⟨b, hb⟩ : ∃ b, b = okP ⟨xa, xp, xd⟩ := ⟨_, rfl⟩
      rw [← hb] at HC
      have HB := Lib.hid hb
      clear hyes hno hsm hx hbx hkal hb hg
      go_wp2_with fail
      refine (HC.out _).mono ?_
      clear c0 c1 c2
      generalize wr.alloc (.cells #[.string xa, .string xp, .bool xd] 27) = W1 at *
      generalize wr.heap.size = Q at *
      rintro e w2 ⟨rfl, k2⟩
      obtain ⟨c0, c1, c2⟩ := HBX.out.stay k2
      have HK2 := Lib.hid (HK1.out.then k2)
      have HKAL2 := Lib.hid (HKAL.out.then k2)
      clear k2 HC HK1 HBX HKAL
      cases b with
      | false =>
        have hI2 : Hid (SetInv w w2 w.heap.size (k + 1) l) := by
          obtain ⟨n, D, m1, m2, m3, m4⟩ := HM.out
          exact ⟨⟨n, D, ownMQ_kept m1 HKAL2.out (fun h => h), by rw [HNO.out HB.out.symm]; exact m2, m3, by omega⟩, HK2.out⟩
        go_wp2_with fail
        go_roundw
        case rel => exact ⟨k + 1, by omega, by go_num, hI2⟩
        case measure => simp [intOf]; omega
      | true =>
        obtain ⟨n, D, m1, m2, m3, m4⟩ := HM.out
        have m1b := ownMQ_kept m1 HKAL2.out (fun h => h)
        have hput := MapQ.put ⟨xa, xp, xd⟩ HSM.out m2 m3
        rw [← HYES.out HB.out.symm] at hput
        have HPUT := Lib.hid hput; have HM3 := Lib.hid m3
        have hkey := key_mkQ ⟨xa, xp, xd⟩ HSM.out.1 HSM.out.2
        clear m1 m2 m3 hput HM
        go_wp2_with (first
          | (at_mapUpdate; refine wpList_mapUpdate_own _ rfl _ _ _ 72 rfl 27 4 lawQ Tryd.underlying72 _ w.heap.size _ _ rfl m1b (by unfold maxLen; omega) _ _ _ rfl rfl hkey _ [] (pl_bool true) ?_; intro w3 hown3 hg3; go_frame)
          | fail)
        have hI2 : Hid (SetInv w w3 w.heap.size (k + 1) l) :=
          ⟨⟨_, _, hown3, HPUT.out, HM3.out.put _ _, by omega⟩, HK2.out.trans (Kept.ofGrown (S := fun k => k = w.heap.size) hg3 (fun k e => (Option.some.inj e).symm)) (fun _ _ h => h) (fun i hi e => by omega)⟩
        clear hown3 hg3
        go_roundw
        case rel => exact ⟨k + 1, by omega, by go_num, hI2⟩
        case measure => simp [intOf]; omega
    · obtain rfl : k = N := by omega
      go_wp2_with fail
      go_ret
      obtain ⟨n, D, m1, m2, m3, m4⟩ := hI.out.map
      rw [HN.out, List.take_length] at m2
      exact ⟨_, n, D, rfl, m1, m2, m4, Nat.le_refl _, hI.out.kept⟩

set_option maxRecDepth 100000 in
set_option maxHeartbeats 3200000 in
theorem exceeds_any (w : World) (m n : Nat) (D : DataW Unit) (M : Per → Bool) (x : Per) (h : OwnMQ w m n D) (hM : MapQ D M) (hxa : x.a.size ≤ 1000000) (hxp : x.p.size ≤ 100000) :
    Calls Tryd.prog 46 #[.map (some m), perV x] w fun e w' => e = .returned (.bool (askP M x)) ∧ Kept (fun _ => False) w w' := by
  have HA := Lib.hid (fun W => panc_any x.p hxp W)
  have HLK : Hid (∀ W, Kept (fun _ => False) w W → ∀ y : ByteArray, y.size ≤ 1000000 → (Instr.lookup 72 (.map (some m)) (.agg #[.string x.a, .string y, .bool true]) false).run Tryd.prog W = .ok (.bool (M ⟨x.a, y, true⟩)) W) :=
    Lib.hid fun W hk y hy => map_lookQ (ownMQ_kept h hk (fun h => h)) hM ⟨x.a, y, true⟩ ⟨by show x.a.size ≤ maxLen; unfold maxLen; omega, by show y.size ≤ maxLen; unfold maxLen; omega⟩
  have hsmall : ∀ u ∈ ancS x.p, u.size ≤ 1000000 := by
    intro u hu
    unfold ancS at hu
    cases hn : namesS x.p with
    | none => rw [hn] at hu; simp at hu
    | some xs =>
      have : u ∈ ancS x.p := by unfold ancS; exact hu
      obtain ⟨k, _, rfl⟩ := (mem_anc hn).1 this
      have := path_size (nm_take hn k)
      omega
  have HS := Lib.hid hsmall
  obtain ⟨V, hV⟩ : ∃ V, V = askP M x := ⟨_, rfl⟩
  rw [← hV]
  unfold askP at hV
  obtain ⟨a, p, d⟩ := x
  simp only at HA HLK HS hV
  obtain ⟨U, hU⟩ : ∃ U, U = ancS p := ⟨_, rfl⟩
  rw [← hU] at HA HS hV
  obtain ⟨N, hN⟩ : ∃ N, N = U.length := ⟨_, rfl⟩
  have HV := Lib.hid hV; have HN := Lib.hid hN
  have hlk0 := HLK.out
  have HBX := Lib.hid (Bx.new w a p d 27)
  have HK1 := Lib.hid (Kept.alloc (fun _ => False) w (.cells #[.string a, .string p, .bool d] 27))
  have hl1 := HLK.out _ HK1.out p (by simp only at hxp; omega)
  clear hlk0 hsmall hV hU hN hxa hxp h hM
  unfold perV
  simp only
  generalize hmp : M ⟨a, p, true⟩ = MP at hl1
  have HMP := Lib.hid hmp
  clear hmp
  have HL1 := Lib.hid hl1
  clear hl1
  cases d with
  | false =>
    cases MP with
    | true =>
      have hv : V = true := by rw [HV.out, HMP.out]; rfl
      subst hv
      go_enter Tryd.func46, Tryd.ntmps46
      go_wp2_with (first
        | (at_lookup; refine wpList_lookup_run (by rfl) _ _ _ rfl _ _ rfl rfl HL1.out ?_)
        | fail)
      go_ret
      exact ⟨rfl, HK1.out⟩
    | false =>
      have hv : V = U.any fun u => M ⟨a, u, true⟩ := by rw [HV.out, HMP.out]; rfl
      have HV2 := Lib.hid hv
      clear hv HV HMP
      go_enter Tryd.func46, Tryd.ntmps46
      go_wp2_with (first
        | (at_lookup; refine wpList_lookup_run (by rfl) _ _ _ rfl _ _ rfl rfl HL1.out ?_)
        | fail)
      refine (HA.out _).mono ?_
      generalize w.alloc (.cells #[.string a, .string p, .bool false] 27) = W1 at *
      generalize w.heap.size = Q at *
      rintro e w2 ⟨v, rfl, hst, k2⟩
      obtain ⟨va, vc, rfl, hvc, hvm⟩ := hst.form
      rw [← HN.out] at hst hvc ⊢
      have HST := Lib.hid hst
      have HBX2 := Lib.hid (HBX.out.stay k2)
      have HK2 := Lib.hid (HK1.out.then k2)
      have HST : Hid (Strs w2 (.slice va N vc) U) := HST
      unfold maxLen at hvm
      clear k2 HA HK1 HBX HL1 hst
      go_wp2_with fail
      go_loopw [6, 23] (fun _ iv wr => ∃ k : Nat, k ≤ N ∧ iv = .int .i64 (k : Int) ∧ Hid (∀ j, j < k → M ⟨a, U.getD j ⟨#[]⟩, true⟩ = false) ∧ wr = w2) (fun _ iv _ => N - (intOf iv).toNat)
      case atStart => exact ⟨0, Nat.zero_le _, rfl, Lib.hid (fun j hj => absurd hj (by omega)), rfl⟩
      case round =>
        obtain ⟨k, hk, rfl, hlo, rfl⟩ := hrel
        by_cases hlt : k < N
        · have l1 : (k : Int) < (N : Int) := by omega
          have l0 : (0 : Int) ≤ (k : Int) := by omega
          have hkl : k < U.length := by have := HN.out; omega
          obtain ⟨g, off, rfl, hg, hc⟩ := HST.out.at (k := k) hkl
          obtain ⟨u, hu⟩ : ∃ u, u = U.getD k ⟨#[]⟩ := ⟨_, rfl⟩
          rw [← hu] at hc
          have hum : u ∈ U := by rw [hu]; simp [List.getD, hkl]
          have hlk := HLK.out _ HK2.out u (HS.out u hum)
          obtain ⟨c0, c1, c2⟩ := HBX2.out
          generalize hmu : M ⟨a, u, true⟩ = mu at hlk
          have HU := Lib.hid hu; have HMU := Lib.hid hmu; have HR := Lib.hid hlk; have HUM := Lib.hid hum
          clear hu hmu hlk hum
          cases mu with
          | true =>
            have hv : V = true := by rw [HV2.out]; exact List.any_eq_true.2 ⟨u, HUM.out, HMU.out⟩
            subst hv
            clear HV2
            go_wp2_with (first
              | (at_lookup; refine wpList_lookup_run (by rfl) _ _ _ rfl _ _ rfl rfl HR.out ?_)
              | fail)
            go_ret
            exact ⟨rfl, HK2.out⟩
          | false =>
            have hI : Hid (∀ j, j < k + 1 → M ⟨a, U.getD j ⟨#[]⟩, true⟩ = false) := Lib.hid fun j hj => by
              rcases Nat.lt_or_ge j k with h | h
              · exact hlo.out j h
              · obtain rfl : j = k := by omega
                rw [← HU.out]; exact HMU.out
            go_wp2_with (first
              | (at_lookup; refine wpList_lookup_run (by rfl) _ _ _ rfl _ _ rfl rfl HR.out ?_)
              | fail)
            go_roundw
            case rel => exact ⟨k + 1, by omega, by go_num, hI, by first | rfl | trivial⟩
            case measure => simp [intOf]; omega
        · obtain rfl : k = N := by omega
          have hv : V = false := by
            rw [HV2.out, List.any_eq_false]
            intro u hu
            obtain ⟨j, hj, rfl⟩ := List.getElem_of_mem hu
            have := hlo.out j (by have := HN.out; omega)
            rw [show U.getD j ⟨#[]⟩ = U[j] by simp [List.getD, hj]] at this
            rw [this]; simp
          subst hv
          clear HV2
          go_wp2_with fail
          go_ret
          exact ⟨rfl, HK2.out⟩
  | true =>
    have hv : V = U.any fun u => M ⟨a, u, true⟩ := by rw [HV.out]; rfl
    have HV2 := Lib.hid hv
    clear hv HV HMP
    go_enter Tryd.func46, Tryd.ntmps46
    go_wp2_with fail
    refine (HA.out _).mono ?_
    generalize w.alloc (.cells #[.string a, .string p, .bool true] 27) = W1 at *
    generalize w.heap.size = Q at *
    rintro e w2 ⟨v, rfl, hst, k2⟩
    obtain ⟨va, vc, rfl, hvc, hvm⟩ := hst.form
    rw [← HN.out] at hst hvc ⊢
    have HST := Lib.hid hst
    have HBX2 := Lib.hid (HBX.out.stay k2)
    have HK2 := Lib.hid (HK1.out.then k2)
    have HST : Hid (Strs w2 (.slice va N vc) U) := HST
    unfold maxLen at hvm
    clear k2 HA HK1 HBX HL1 hst
    go_wp2_with fail
    go_loopw [6, 23] (fun _ iv wr => ∃ k : Nat, k ≤ N ∧ iv = .int .i64 (k : Int) ∧ Hid (∀ j, j < k → M ⟨a, U.getD j ⟨#[]⟩, true⟩ = false) ∧ wr = w2) (fun _ iv _ => N - (intOf iv).toNat)
    case atStart => exact ⟨0, Nat.zero_le _, rfl, Lib.hid (fun j hj => absurd hj (by omega)), rfl⟩
    case round =>
      obtain ⟨k, hk, rfl, hlo, rfl⟩ := hrel
      by_cases hlt : k < N
      · have l1 : (k : Int) < (N : Int) := by omega
        have l0 : (0 : Int) ≤ (k : Int) := by omega
        have hkl : k < U.length := by have := HN.out; omega
        obtain ⟨g, off, rfl, hg, hc⟩ := HST.out.at (k := k) hkl
        obtain ⟨u, hu⟩ : ∃ u, u = U.getD k ⟨#[]⟩ := ⟨_, rfl⟩
        rw [← hu] at hc
        have hum : u ∈ U := by rw [hu]; simp [List.getD, hkl]
        have hlk := HLK.out _ HK2.out u (HS.out u hum)
        obtain ⟨c0, c1, c2⟩ := HBX2.out
        generalize hmu : M ⟨a, u, true⟩ = mu at hlk
        have HU := Lib.hid hu; have HMU := Lib.hid hmu; have HR := Lib.hid hlk; have HUM := Lib.hid hum
        clear hu hmu hlk hum
        cases mu with
        | true =>
          have hv : V = true := by rw [HV2.out]; exact List.any_eq_true.2 ⟨u, HUM.out, HMU.out⟩
          subst hv
          clear HV2
          go_wp2_with (first
            | (at_lookup; refine wpList_lookup_run (by rfl) _ _ _ rfl _ _ rfl rfl HR.out ?_)
            | fail)
          go_ret
          exact ⟨rfl, HK2.out⟩
        | false =>
          have hI : Hid (∀ j, j < k + 1 → M ⟨a, U.getD j ⟨#[]⟩, true⟩ = false) := Lib.hid fun j hj => by
            rcases Nat.lt_or_ge j k with h | h
            · exact hlo.out j h
            · obtain rfl : j = k := by omega
              rw [← HU.out]; exact HMU.out
          go_wp2_with (first
            | (at_lookup; refine wpList_lookup_run (by rfl) _ _ _ rfl _ _ rfl rfl HR.out ?_)
            | fail)
          go_roundw
          case rel => exact ⟨k + 1, by omega, by go_num, hI, by first | rfl | trivial⟩
          case measure => simp [intOf]; omega
      · obtain rfl : k = N := by omega
        have hv : V = false := by
          rw [HV2.out, List.any_eq_false]
          intro u hu
          obtain ⟨j, hj, rfl⟩ := List.getElem_of_mem hu
          have := hlo.out j (by have := HN.out; omega)
          rw [show U.getD j ⟨#[]⟩ = U[j] by simp [List.getD, hj]] at this
          rw [this]; simp
        subst hv
        clear HV2
        go_wp2_with fail
        go_ret
        exact ⟨rfl, HK2.out⟩
end Go.Proofs.YtcooacjpblhblaaDoor
/-
  slices.SortFunc of permissions by permission.Compare, laid at this seat's program.
-/
namespace Go.Proofs.YtcooacjpblhblaaDoor
open Go.RowKit Go.Shelf Go.Sort
set_option linter.unusedSimpArgs false
set_option linter.unusedVariables false
set_option maxRecDepth 100000

def laysSortQ_ren : Go.Shelf.Ren := ⟨fun | 6 => 47 | 14 => 64 | 15 => 65 | 20 => 76 | 21 => 77 | 22 => 78 | 23 => 79 | 24 => 80 | 25 => 81 | 26 => 82 | 27 => 83 | 28 => 84 | 29 => 85 | 46 => 97 | 47 => 98 | 48 => 99 | 49 => 100 | 50 => 101 | 57 => 108 | n => n, fun | 0 => 0 | 3 => 3 | 4 => 4 | 5 => 5 | 9 => 9 | 22 => 54 | 24 => 27 | 25 => 43 | 39 => 83 | 45 => 88 | 46 => 89 | 50 => 93 | 53 => 96 | 55 => 98 | 66 => 103 | 70 => 107 | 76 => 111 | 77 => 112 | n => n, fun | n => n⟩
theorem laysSortQ : Go.Proofs.SlLaysF0.n6 Tryd.prog laysSortQ_ren := {
  mixed := by kernel_rfl
  f6 := ⟨ "slices.SortFunc[[]arbac/permission.Permission,arbac/permission.Permission]", by kernel_rfl, Tryd.func47.trans (congrArg some (by kernel_rfl))⟩
  f14 := ⟨ "slices.pdqsortCmpFunc[arbac/permission.Permission]", by kernel_rfl, Tryd.func64.trans (congrArg some (by kernel_rfl))⟩
  f15 := Tryd.func65.trans (congrArg some (by kernel_rfl))
  f20 := ⟨ "slices.insertionSortCmpFunc[arbac/permission.Permission]", by kernel_rfl, Tryd.func76.trans (congrArg some (by kernel_rfl))⟩
  f21 := ⟨ "slices.heapSortCmpFunc[arbac/permission.Permission]", by kernel_rfl, Tryd.func77.trans (congrArg some (by kernel_rfl))⟩
  f22 := ⟨ "slices.breakPatternsCmpFunc[arbac/permission.Permission]", by kernel_rfl, Tryd.func78.trans (congrArg some (by kernel_rfl))⟩
  f23 := ⟨ "slices.choosePivotCmpFunc[arbac/permission.Permission]", by kernel_rfl, Tryd.func79.trans (congrArg some (by kernel_rfl))⟩
  f24 := ⟨ "slices.reverseRangeCmpFunc[arbac/permission.Permission]", by kernel_rfl, Tryd.func80.trans (congrArg some (by kernel_rfl))⟩
  f25 := ⟨ "slices.partialInsertionSortCmpFunc[arbac/permission.Permission]", by kernel_rfl, Tryd.func81.trans (congrArg some (by kernel_rfl))⟩
  f26 := ⟨ "slices.partitionEqualCmpFunc[arbac/permission.Permission]", by kernel_rfl, Tryd.func82.trans (congrArg some (by kernel_rfl))⟩
  f27 := ⟨ "slices.partitionCmpFunc[arbac/permission.Permission]", by kernel_rfl, Tryd.func83.trans (congrArg some (by kernel_rfl))⟩
  f28 := Tryd.func84.trans (congrArg some (by kernel_rfl))
  f29 := Tryd.func85.trans (congrArg some (by kernel_rfl))
  f46 := ⟨ "slices.siftDownCmpFunc[arbac/permission.Permission]", by kernel_rfl, Tryd.func97.trans (congrArg some (by kernel_rfl))⟩
  f47 := Tryd.func98.trans (congrArg some (by kernel_rfl))
  f48 := Tryd.func99.trans (congrArg some (by kernel_rfl))
  f49 := ⟨ "slices.medianAdjacentCmpFunc[arbac/permission.Permission]", by kernel_rfl, Tryd.func100.trans (congrArg some (by kernel_rfl))⟩
  f50 := ⟨ "slices.medianCmpFunc[arbac/permission.Permission]", by kernel_rfl, Tryd.func101.trans (congrArg some (by kernel_rfl))⟩
  f57 := ⟨ "slices.order2CmpFunc[arbac/permission.Permission]", by kernel_rfl, Tryd.func108.trans (congrArg some (by kernel_rfl))⟩
  t0 := Tryd.underlying0
  a0 := Tryd.isAgg0
  z0 := Tryd.sizeOf0
  v0 := Tryd.zeroValue0
  t3 := Tryd.underlying3
  a3 := Tryd.isAgg3
  z3 := Tryd.sizeOf3
  v3 := Tryd.zeroValue3
  t4 := Tryd.underlying4
  a4 := Tryd.isAgg4
  z4 := Tryd.sizeOf4
  v4 := Tryd.zeroValue4
  t5 := Tryd.underlying5
  a5 := Tryd.isAgg5
  z5 := Tryd.sizeOf5
  v5 := Tryd.zeroValue5
  t9 := Tryd.underlying9
  a9 := Tryd.isAgg9
  z9 := Tryd.sizeOf9
  v9 := Tryd.zeroValue9
  t22 := Tryd.underlying54
  a22 := Tryd.isAgg54
  z22 := Tryd.sizeOf54
  v22 := Tryd.zeroValue54
  t25 := Tryd.underlying43
  a25 := Tryd.isAgg43
  z25 := Tryd.sizeOf43
  v25 := Tryd.zeroValue43
  t39 := Tryd.underlying83
  a39 := Tryd.isAgg83
  z39 := Tryd.sizeOf83
  v39 := Tryd.zeroValue83
  t45 := Tryd.underlying88
  a45 := Tryd.isAgg88
  z45 := Tryd.sizeOf88
  v45 := Tryd.zeroValue88
  t46 := Tryd.underlying89
  a46 := Tryd.isAgg89
  z46 := Tryd.sizeOf89
  v46 := Tryd.zeroValue89
  t50 := Tryd.underlying93
  a50 := Tryd.isAgg93
  z50 := Tryd.sizeOf93
  v50 := Tryd.zeroValue93
  t53 := Tryd.underlying96
  a53 := Tryd.isAgg96
  z53 := Tryd.sizeOf96
  v53 := Tryd.zeroValue96
  t55 := Tryd.underlying98
  a55 := Tryd.isAgg98
  z55 := Tryd.sizeOf98
  v55 := Tryd.zeroValue98
  t66 := Tryd.underlying103
  a66 := Tryd.isAgg103
  z66 := Tryd.sizeOf103
  v66 := Tryd.zeroValue103
  t70 := Tryd.underlying107
  a70 := Tryd.isAgg107
  z70 := Tryd.sizeOf107
  v70 := Tryd.zeroValue107
  t76 := Tryd.underlying111
  a76 := Tryd.isAgg111
  z76 := Tryd.sizeOf111
  v76 := Tryd.zeroValue111
  t77 := Tryd.underlying112
  a77 := Tryd.isAgg112
  z77 := Tryd.sizeOf112
  v77 := Tryd.zeroValue112 }

/-- The valid permissions. -/
abbrev PerT : Type := { x : Per // okP x = true }
theorem okP_some : okP ⟨mkS [97], mkS [47], false⟩ = true := by decide +kernel
instance : Inhabited PerT := ⟨⟨_, okP_some⟩⟩
def encQ (x : PerT) : List Value := perC x.val
def cfQ (x y : PerT) : Int := cmpP x.val y.val
theorem ltQ (x y : PerT) : ltOf cfQ x y = true ↔ cmpP x.val y.val < 0 := by unfold ltOf cfQ; rw [decide_eq_true_iff]
theorem ltQ_no (x y : PerT) : ltOf cfQ x y = false ↔ ¬ cmpP x.val y.val < 0 := by unfold ltOf cfQ; rw [decide_eq_false_iff_not]
theorem totQ (x y : PerT) (h1 : ltOf cfQ x y = false) (h2 : ltOf cfQ y x = false) : x = y := by
  rw [ltQ_no] at h1 h2
  have h3 := cmpP_swap x.val y.val
  exact Subtype.ext ((cmpP_zero _ _).1 (by omega))
theorem swoQ : SWO (ltOf cfQ) where
  irrefl x := by rw [ltQ_no, (cmpP_zero _ _).2 rfl]; omega
  trans x y z h1 h2 := by rw [ltQ] at *; exact cmpP_trans x.property y.property z.property h1 h2
  ntrans x y z h1 h2 := by
    rw [ltQ_no] at *
    intro h3
    have a1 := cmpP_swap x.val y.val
    have a2 := cmpP_swap y.val z.val
    by_cases e : cmpP x.val y.val = 0
    · have := (cmpP_zero _ _).1 e
      rw [this] at h3; exact h2 h3
    · by_cases e2 : cmpP y.val z.val = 0
      · have := (cmpP_zero _ _).1 e2
        rw [this] at h1; exact h1 h3
      · have := cmpP_trans z.property y.property x.property (by omega) (by omega)
        have a3 := cmpP_swap x.val z.val
        omega
theorem okP_small {x : Per} (h : okP x = true) : x.a.size ≤ 12 ∧ x.p.size ≤ 10000 := by
  obtain ⟨l, hl⟩ := Option.isSome_iff_exists.1 (okP_path h)
  refine ⟨?_, path_size hl⟩
  have h2 := okP_name h
  unfold validS at h2
  simp only [Bool.and_eq_true, decide_eq_true_eq] at h2
  exact h2.1.1.2
theorem cmpLaysQ (blk off size : Nat) (w : World) : CmpLays Tryd.prog 19 #[] encQ 3 cfQ blk off size w := fun m os dk hs x y =>
  (pcmp_any x.val y.val (by have := okP_small x.property; omega) (by have := okP_small y.property; omega) _).mono fun e w' ⟨h1, os', h2⟩ => ⟨h1, 0, os', h2⟩

theorem flat_getQ (L : List PerT) (t : Nat) (h : t < L.length * 3) : (flatQ (L.map (·.val)))[t]? = some ((flatK encQ 3 L.toArray)[t]!) := by
  have hi : t / 3 < L.length := by omega
  obtain ⟨a0, a1, a2⟩ := flatQ_at (L.map (·.val)) (t / 3) (by rw [List.length_map]; exact hi)
  rw [get_flatK encQ 3 L.toArray t (by simpa using h)]
  have e1 : L.toArray[t / 3]! = L[t / 3] := by simp [hi]
  have e2 : (L.map (·.val)).getD (t / 3) per0 = (L[t / 3]).val := by simp [List.getD, hi]
  rw [e2] at a0 a1 a2
  rw [e1]
  have hr : t % 3 = 0 ∨ t % 3 = 1 ∨ t % 3 = 2 := by omega
  rcases hr with e | e | e
  · rw [show t / 3 * 3 = t by omega] at a0
    rw [a0, e]; rfl
  · rw [show t / 3 * 3 + 1 = t by omega] at a1
    rw [a1, e]; rfl
  · rw [show t / 3 * 3 + 2 = t by omega] at a2
    rw [a2, e]; rfl
theorem holds_persQ {w : World} {g c : Nat} {L : List PerT} (h : HoldsK encQ 3 w g 0 L.toArray) (hg : g < w.heap.size) (hc : L.length ≤ c) (hm : c ≤ maxLen) : Pers w (.slice (some ⟨g, 0, none⟩) L.length c) (L.map (·.val)) := by
  have hl : (L.map (·.val)).length = L.length := List.length_map _
  have hcell : ∀ t, t < L.length * 3 → w.cell? ⟨g, t, none⟩ = (flatQ (L.map (·.val)))[t]? := fun t ht => by
    rw [flat_getQ L t ht]
    have := (h t (by rw [size_flatK]; simpa using ht)).1
    rw [Nat.zero_add] at this
    exact this
  refine Or.inr ⟨g, 0, c, by rw [hl], by rw [hl]; exact hc, hm, hg, fun i hi => ?_⟩
  obtain ⟨a0, a1, a2⟩ := flatQ_at (L.map (·.val)) i hi
  rw [hl] at hi
  rw [Nat.zero_add]
  exact ⟨(hcell _ (by omega)).trans a0, (hcell _ (by omega)).trans a1, (hcell _ (by omega)).trans a2⟩

/-- Permissions that are valid, with the reason. -/
def withQ (l : List Per) (h : ∀ x ∈ l, okP x = true) : List PerT := l.pmap (fun x hx => ⟨x, hx⟩) h
theorem withQ_val (l : List Per) (h : ∀ x ∈ l, okP x = true) : (withQ l h).map (·.val) = l := by
  unfold withQ
  rw [List.map_pmap]
  simp
theorem sortQ_sorted (l : List PerT) (hn : (l.map (·.val)).Nodup) : SortQ ((l.mergeSort fun x y => !(ltOf cfQ) y x).map (·.val)) := by
  refine ⟨?_, fun x hx => ?_⟩
  · have h1 := List.pairwise_mergeSort (le := fun x y : PerT => !(ltOf cfQ) y x) (fun a b c h1 h2 => by
      simp only [Bool.not_eq_true'] at h1 h2 ⊢
      exact swoQ.ntrans c b a h2 h1) (fun a b => by
      cases e1 : ltOf cfQ b a with
      | false => simp
      | true =>
        cases e2 : ltOf cfQ a b with
        | false => simp
        | true => have := swoQ.trans _ _ _ e1 e2; rw [swoQ.irrefl] at this; cases this) l
    have hn2 : l.Nodup := List.Pairwise.of_map (S := fun a b : Per => a ≠ b) (fun x : PerT => x.val) (fun a b h e => h (by rw [e])) hn
    have h2 : (l.mergeSort fun x y => !(ltOf cfQ) y x).Nodup := (List.mergeSort_perm _ _).nodup_iff.2 hn2
    refine List.Pairwise.map (R := fun a b : PerT => (!(ltOf cfQ) b a) = true ∧ a ≠ b) _ (fun a b h => ?_) (h1.and h2)
    obtain ⟨h3, h4⟩ := h
    simp only [Bool.not_eq_true'] at h3
    cases e : ltOf cfQ a b with
    | true => exact (ltQ a b).1 e
    | false => exact absurd (totQ a b e h3) h4
  · obtain ⟨y, _, rfl⟩ := List.mem_map.1 hx
    exact y.property

/-- A row whose cells stand in a block of cells owns it. -/
theorem own_of_cells {T : TypeId} {B : Nat} {w : World} {g c n : Nat} {cur : Array Value} {l : List Per} (hb : w.heap[g]? = some (.cells cur T (0, 0))) (hB : B ≤ g) (hn : n = l.length) (h1 : n ≤ c) (h2 : c ≤ maxLen) (h3 : cur.size = c * 3)
    (hc : ∀ t, t < n * 3 → w.cell? ⟨g, t, none⟩ = (flatQ l)[t]?) : OwnQ T B w (.slice (some ⟨g, 0, none⟩) n c) l := by
  subst hn
  refine ⟨flatQ_length l, Or.inr ⟨g, c, cur, rfl, hB, hb, h1, h2, h3, ?_⟩⟩
  apply List.ext_getElem?
  intro t
  by_cases ht : t < l.length * 3
  · rw [List.getElem?_take_of_lt ht, ← hc t ht]
    simp [World.cell?, hb]
  · rw [List.getElem?_take_eq_none (by omega), List.getElem?_eq_none (by rw [flatQ_length]; omega)]
theorem heap_sortedK {w : World} {g n : Nat} {os : Array Obj} {cur : Array Value} {e : TypeId} {fr : Nat × Nat} (d : Array PerT) (hb : w.heap[g]? = some (.cells cur e fr)) :
    ∃ cur', (sortWorldK encQ 3 w g 0 n d os).heap[g]? = some (.cells cur' e fr) ∧ cur'.size = cur.size := by
  have hg : g < w.heap.size := (Array.getElem?_eq_some_iff.1 hb).1
  refine ⟨putCells id 0 (flatK encQ 3 d) cur, ?_, by simp [putCells]⟩
  unfold sortWorldK putRowK
  rw [heap_grow_old _ _ (by simpa using hg)]
  simp [putRow, mapBlock, Sort.ahead, Array.getElem?_modify, hb, onCells]

theorem sortq_none (a : Option Addr) (c : Nat) (fv : Value) (w : World) : Calls Tryd.prog 47 #[.slice a 0 c, fv] w fun e w' => e = .returned (.tuple #[]) ∧ w = w' :=
  (AnyF.slices_SortFunc_none (P := Tryd.prog) (ρ := laysSortQ_ren) laysSortQ a c fv w).mono fun _ _ ⟨h1, h2⟩ => ⟨h1, h2.symm⟩

theorem sortq_some (T : TypeId) (w : World) (B : Nat) (g c : Nat) (acc : List Per) (h : OwnQ T B w (.slice (some ⟨g, 0, none⟩) acc.length c) acc) (hp : ∀ x ∈ acc, okP x = true) (hn : acc.Nodup) (hl : acc.length ≤ 1000000) :
    Calls Tryd.prog 47 #[.slice (some ⟨g, 0, none⟩) acc.length c, .func (.func 19) #[] #[]] w fun e w' => e = .returned (.tuple #[]) ∧
      ∃ r, SortQ r ∧ (∀ x, x ∈ r ↔ x ∈ acc) ∧ r.length = acc.length ∧ Pers w' (.slice (some ⟨g, 0, none⟩) acc.length c) r ∧ OwnQ T B w' (.slice (some ⟨g, 0, none⟩) acc.length c) r ∧ Kept (fun k => k = g) w w' := by
  have hg : g < w.heap.size := (World.ownsRow.lt h g rfl).2
  have hcap : acc.length ≤ c ∧ c ≤ maxLen := by
    rcases h.2 with ⟨e, _⟩ | ⟨g', cap, cur, e, _, _, h1, h2, _⟩
    · cases e
    · cases e; exact ⟨h1, h2⟩
  obtain ⟨L, hL⟩ : ∃ L, L = withQ acc hp := ⟨_, rfl⟩
  have hval : L.map (·.val) = acc := by rw [hL]; exact withQ_val acc hp
  have hlen : L.length = acc.length := by rw [← hval, List.length_map]
  have hH : HoldsK encQ 3 w g 0 L.toArray := fun j hj => by
    have hj2 : j < L.length * 3 := by rw [size_flatK] at hj; simpa using hj
    refine ⟨?_, World.ownsRow.frozenAt h (0 + j)⟩
    rw [Nat.zero_add]
    have e1 := World.ownsRow.cellAt h j (by rw [hlen] at hj2; exact hj2)
    rw [e1, ← hval]
    exact flat_getQ L j hj2
  have hS := AnyQ.slices_SortFunc_total laysSortQ 3 Tryd.isAgg27 Tryd.sizeOf27 encQ (fun _ => rfl) (fun x v hv => by simp [encQ, perC] at hv; rcases hv with rfl | rfl | rfl <;> rfl) cfQ swoQ 19 #[] g 0 c L.toArray w (enters_of Tryd.func19 (by kernel_rfl) rfl) (cmpLaysQ _ _ _ _) hH hg (by simp; omega) totQ
  have e0 : L.toArray.size = acc.length := by simpa using hlen
  rw [e0] at hS
  refine hS.mono ?_
  rintro e w' ⟨rfl, n, os, hw⟩
  have hpm := List.mergeSort_perm L (fun x y => !(ltOf cfQ) y x)
  have hvm : ((L.mergeSort fun x y => !(ltOf cfQ) y x).map (·.val)).Perm acc := by rw [← hval]; exact hpm.map _
  have hsl : ((L.mergeSort fun x y => !(ltOf cfQ) y x).map (·.val)).length = acc.length := hvm.length_eq
  have hml : (L.mergeSort fun x y => !(ltOf cfQ) y x).length = acc.length := by rw [hpm.length_eq, hlen]
  have hds : ((L.mergeSort fun x y => !(ltOf cfQ) y x).toArray).size = L.toArray.size := by simp [hpm.length_eq]
  have hSW : SWK encQ 3 w g 0 (L.mergeSort fun x y => !(ltOf cfQ) y x).toArray w' := ⟨n, os, hw⟩
  have hHo := hSW.holds hg hH hds
  have hkept : Kept (fun k => k = g) w w' := by
    rw [hw]
    refine ⟨rfl, rfl, rfl, by unfold sortWorldK putRowK; simp [size_putRow], fun k hk hne => ?_⟩
    unfold sortWorldK putRowK
    rw [heap_grow_old _ _ (by rw [size_putRow]; exact hk)]
    have : g ≠ k := fun e => hne e.symm
    simp [putRow, mapBlock, Sort.ahead, Array.getElem?_modify, this]
  have hpers := holds_persQ hHo (hSW.lt hg) (by rw [hml]; exact hcap.1) hcap.2
  rw [hml] at hpers
  refine ⟨rfl, _, sortQ_sorted L (by rw [hval]; exact hn), fun x => hvm.mem_iff, hsl, hpers, ?_, hkept⟩
  rcases h.2 with ⟨e, _⟩ | ⟨g', cap, cur, e, hB, hh, _, _, h3, _⟩
  · cases e
  · cases e
    obtain ⟨cur', hc1, hc2⟩ := heap_sortedK (n := n) (os := os) (L.mergeSort fun x y => !(ltOf cfQ) y x).toArray hh
    rw [← hw] at hc1
    refine own_of_cells hc1 hB hsl.symm hcap.1 hcap.2 (by rw [hc2]; exact h3) fun t ht => ?_
    rcases hpers with ⟨e, _⟩ | ⟨g2, off2, cap2, e, _, _, _, h4⟩
    · cases e
    · simp only [Value.slice.injEq, Option.some.injEq, Addr.mk.injEq] at e
      obtain ⟨⟨rfl, rfl, _⟩, _, _⟩ := e
      have hi : t / 3 < ((L.mergeSort fun x y => !(ltOf cfQ) y x).map (·.val)).length := by rw [hsl]; omega
      obtain ⟨a0, a1, a2⟩ := flatQ_at _ (t / 3) hi
      obtain ⟨c0, c1, c2⟩ := h4 (t / 3) hi
      rw [Nat.zero_add] at c0 c1 c2
      have hr : t % 3 = 0 ∨ t % 3 = 1 ∨ t % 3 = 2 := by omega
      rcases hr with e | e | e
      · rw [show t / 3 * 3 = t by omega] at a0 c0
        rw [a0, c0]
      · rw [show t / 3 * 3 + 1 = t by omega] at a1 c1
        rw [a1, c1]
      · rw [show t / 3 * 3 + 2 = t by omega] at a2 c2
        rw [a2, c2]
end Go.Proofs.YtcooacjpblhblaaDoor
/-
  Permissions: Normal.
-/
namespace Go.Proofs.YtcooacjpblhblaaDoor
open Go.RowKit Go.Maps Go.WideMaps Go.ChangeMaps
set_option linter.unusedSimpArgs false
set_option linter.unusedVariables false

theorem info_perQ : (Tryd.prog.info? 27).map (fun i => (i.zero, i.size, i.bytes)) = some (some (.agg #[.string ⟨#[]⟩, .string ⟨#[]⟩, .bool false]), 3, 40) := by kernel_rfl
theorem OwnQ.alloc {T : TypeId} {B : Nat} {w : World} {v : Value} {l : List Per} (h : OwnQ T B w v l) (o : Obj) : OwnQ T B (w.alloc o) v l := World.ownsRow.alloc h o
theorem OwnQ.low {T : TypeId} {B B' : Nat} {w : World} {v : Value} {l : List Per} (h : OwnQ T B w v l) (hB : B' ≤ B) : OwnQ T B' w v l := by
  refine ⟨h.1, ?_⟩
  rcases h.2 with e | ⟨g, cap, cur, e, hb, r⟩
  · exact Or.inl e
  · exact Or.inr ⟨g, cap, cur, e, Nat.le_trans hB hb, r⟩
theorem OwnQ.lt {T : TypeId} {B : Nat} {w : World} {v : Value} {l : List Per} (h : OwnQ T B w v l) : ∀ k, v.ownBlock = some k → B ≤ k ∧ k < w.heap.size := fun k hk => World.ownsRow.lt h k hk
theorem Bx.pers {w : World} {g : Nat} {x : Per} (h : Bx w g x.a x.p x.d) : Pers w (.slice (some ⟨g, 0, none⟩) 1 1) [x] :=
  Or.inr ⟨g, 0, 1, rfl, Nat.le_refl _, by unfold maxLen; omega, World.block_lt_of_cell? w _ h.c0, fun i hi => by
    obtain rfl : i = 0 := by simpa using hi
    exact ⟨h.c0, h.c1, h.c2⟩⟩

/-- An append whose run is known, asked for or not (a guard that holds). -/
theorem wpList_appendQ_run {P : Program} {w : World} {ops : Array Oper} {rest : List Oper} {o : Oper} {a : Act} {Q : Exit → Act → World → Prop} (hw : Region.wanted o (yielded ops a.tmps) = true) (s x : Operand) (t t' : TypeId)
    (ho : o.op = .call { callee := .builtin .append, args := #[s, x], argTypes := #[t, t'] }) (v u : Value) (hd : a.eval s = v) (hs : a.eval x = u) {v' : Value} {w' : World}
    (hr : (Builtin.append_ #[t, t'] o.type #[v, u]).run P w = .ok v' w') (h : wpList P ops Q rest (a.put o.dst v') w') : wpList P ops Q (o :: rest) a w := by
  refine wpList_step fun K hK => ?_
  rw [if_pos hw]
  unfold Oper.wp execOp
  simp only [ho, resolve, invoke, builtin, Sem.run_bind, Sem.run_pure, Result.andThen_ok, List.map_toArray, List.map_cons, List.map_nil, hd, hs, hr]
  exact hK _ _ h
/-- An append of one permission to a row of the call's own. -/
theorem wpList_pushQ {ts te : TypeId} (hu : Tryd.prog.underlying ts = some (.slice te)) (hie : (Tryd.prog.info? te).map (fun i => (i.zero, i.size, i.bytes)) = some (some (.agg #[.string ⟨#[]⟩, .string ⟨#[]⟩, .bool false]), 3, 40))
    {w : World} {ops : Array Oper} {rest : List Oper} {o : Oper} {a : Act} {Q : Exit → Act → World → Prop} (hw : Region.wanted o (yielded ops a.tmps) = true) (s x : Operand)
    (ho : o.op = .call { callee := .builtin .append, args := #[s, x], argTypes := #[ts, ts] }) (hty : o.type = ts) (B : Nat) (v : Value) (acc : List Per) (g : Nat) (z : Per) (hd : a.eval s = v) (hs : a.eval x = .slice (some ⟨g, 0, none⟩) 1 1)
    (hown : OwnQ te B w v acc) (hz : Bx w g z.a z.p z.d) (hl : acc.length ≤ 900000) (hB : B ≤ w.heap.size)
    (h : ∀ a' c' w', OwnQ te B w' (.slice a' (acc.length + 1) c') (acc ++ [z]) → Kept (fun k => v.ownBlock = some k) w w' → wpList Tryd.prog ops Q rest (a.put o.dst (.slice a' (acc.length + 1) c')) w') : wpList Tryd.prog ops Q (o :: rest) a w := by
  obtain ⟨a', c', w', hr, hf, hk⟩ := append_pers_run hu hie hown hz.pers (by simp; omega) hB
  rw [List.length_append] at hr hf
  exact wpList_appendQ_run hw s x _ _ ho _ _ hd hs (by rw [hty]; exact hr) (h _ _ _ hf hk)

abbrev tQ : TypeId := 27
theorem rangesQ_kept {a b : World} {bs r n cnt : Nat} {D : DataW Unit} {left : Lit → Bool} (h : a.ranges Tryd.prog 27 (plainElem Tryd.prog 4) bs r n D left cnt) (hk : Kept (fun _ => False) a b) : b.ranges Tryd.prog 27 (plainElem Tryd.prog 4) bs r n D left cnt := by
  obtain ⟨es, clock, since, seen, c0, h1, h2, h3, h4, h5, h6⟩ := h
  exact ⟨es, clock, since, seen, c0, (hk.block bs (Array.getElem?_eq_some_iff.1 h1).1 (fun h => h)).trans h1, h2, h3, h4, (hk.block r (Array.getElem?_eq_some_iff.1 h5).1 (fun h => h)).trans h5, h6⟩

/-- What Normal answers. -/
structure NormRes (w w' : World) (l : List Per) (v : Value) (r : List Per) : Prop where
  norm : NormS l r
  own : OwnQ 27 w.heap.size w' v r
  kept : Kept (fun _ => False) w w'
  len : r.length ≤ l.length

/-- What has been found so far. -/
structure NmInv (w wr : World) (m n : Nat) (D : DataW Unit) (l : List Per) (v : Value) (acc : List Per) (left : Lit → Bool) (cnt : Nat) : Prop where
  rg : wr.ranges Tryd.prog 27 (plainElem Tryd.prog 4) m w.heap.size n D left cnt
  row : OwnQ 27 w.heap.size wr v acc
  mem : ∀ x, x ∈ acc ↔ (x ∈ l ∧ okP x = true ∧ left (klQ x) = false ∧ excP l x = false)
  nodup : acc.Nodup
  len : acc.length + cnt ≤ n
  kept : Kept (fun _ => False) w wr

theorem klQ_same {x y : Per} : (klQ x).sameKey (klQ y) = true ↔ klQ x = klQ y := ⟨fun e => WideAt.sameKey_eq e, fun e => by rw [e]; exact WideAt.sameKey_self (a := klQ y) trivial⟩
theorem leftQ {left : Lit → Bool} {x y : Per} (hx : smallQ x) (hy : smallQ y) : (left (klQ x) && !(klQ x).sameKey (klQ y)) = false ↔ (left (klQ x) = false ∨ x = y) := by
  rw [Bool.and_eq_false_iff]
  constructor
  · rintro (e | e)
    · exact Or.inl e
    · right
      rw [Bool.not_eq_false'] at e
      exact klQ_inj hx hy (klQ_same.1 e)
  · rintro (e | rfl)
    · exact Or.inl e
    · right
      rw [klQ_same.2 rfl]; rfl
theorem nodup_le {l m : List Per} (hn : l.Nodup) (h : ∀ x ∈ l, x ∈ m) : l.length ≤ m.length := by
  induction l generalizing m with
  | nil => exact Nat.zero_le _
  | cons x t ih =>
    have hx : x ∈ m := h x (by simp)
    have h2 := ih (m := m.erase x) (List.nodup_cons.1 hn).2 fun y hy => by
      have hne : y ≠ x := fun e => by subst e; exact (List.nodup_cons.1 hn).1 hy
      exact (List.mem_erase_of_ne hne).2 (h y (List.mem_cons_of_mem _ hy))
    rw [List.length_erase_of_mem hx] at h2
    have : 0 < m.length := List.length_pos_of_mem hx
    rw [List.length_cons]; omega

set_option maxRecDepth 100000 in
set_option maxHeartbeats 3200000 in
theorem normal_any (w0 : World) (v : Value) (l : List Per) (h : Pers w0 v l) (hb : bdQ l) (hl : l.length ≤ 50000) :
    Calls Tryd.prog 26 #[v] w0 fun e w' => ∃ v' r, e = .returned v' ∧ NormRes w0 w' l v' r := by
  have HS := Lib.hid (setOf_any w0 v l h hb (by omega))
  have HBD := Lib.hid hb
  clear h hb
  go_enter Tryd.func26, Tryd.ntmps26
  go_wp2_with fail
  refine HS.out.mono ?_
  rintro e w ⟨m, n, D, rfl, h1, h2, hnl, hm0, k0⟩
  have H1 := Lib.hid h1; have H2 := Lib.hid h2; have K0 := Lib.hid k0
  have hml := h1.lt
  have hsz := h1.size_le
  clear HS h1 h2 k0
  go_wp2_with (first
    | (at_range; refine wpList_range_own _ rfl _ 72 rfl 27 4 lawQ Tryd.underlying72 _ m n _ rfl H1.out ?_; intro w1 hrg0 hg0 hs0)
    | fail)
  try go_frame
  have HI0 : Hid (NmInv w w1 m n D l (.slice none 0 0) [] (Maps.has D) (Maps.size D)) :=
    ⟨hrg0, OwnQ.nil _ _ _, (fun x => by
      constructor
      · intro hh; simp at hh
      · rintro ⟨a1, a2, a3, _⟩
        have := (H2.out x (bdQ_small HBD.out a1)).1
        rw [this] at a3
        have h4 := (memP_iff l x).2 ⟨a1, a2⟩
        rw [h4] at a3; cases a3), List.nodup_nil, by simpa using hsz, Kept.ofGrown hg0 (fun k e => by cases e)⟩
  clear hrg0 hg0
  go_loopw [4, 5] (fun lv _ wr => ∃ (left : Lit → Bool) (cnt : Nat) (a : Option Addr) (c : Nat) (acc : List Per), lv = .slice a acc.length c ∧ Hid (NmInv w wr m n D l (.slice a acc.length c) acc left cnt))
    (fun _ _ wr => wr.rangeLeft m w.heap.size)
  case atStart => exact ⟨_, _, none, 0, [], rfl, HI0⟩
  case round =>
    obtain ⟨left, cnt, a, c, acc, rfl, hI⟩ := hrel
    have hrg := hI.out.rg
    clear HI0
    go_wp2_with (first
      | (at_next; refine wpList_next_ranges _ rfl _ rfl 27 lawQ (plainElem Tryd.prog 4) perV vB (fun key kl h => by obtain ⟨s, rfl, _⟩ := key_invQ h; exact ⟨s, rfl⟩) (fun v y h => pl_vB_inv h) m w.heap.size n _ _ _ rfl hrg ?_ ?_)
      | fail)
    · intro hc0 hl0
      have hmem := hI.out.mem
      have hown := hI.out.row
      have hnd := hI.out.nodup
      have hle := hI.out.len
      have hkw := hI.out.kept
      have hpth : ∀ x ∈ acc, okP x = true := fun x hx => ((hmem x).1 hx).2.1
      have HMEM : Hid (∀ x, x ∈ acc ↔ (x ∈ l ∧ okP x = true ∧ excP l x = false)) := fun x => by rw [hmem x, hl0]; simp
      have HLEN : Hid (acc.length ≤ l.length) := Lib.hid (nodup_le hnd fun x hx => ((hmem x).1 hx).1)
      have HW : Hid (w0.heap.size ≤ w.heap.size) := Lib.hid K0.out.size
      by_cases hn0 : acc = []
      · subst hn0
        have HR : Hid (NormRes w0 wr l (.slice a 0 c) []) := ⟨⟨⟨List.Pairwise.nil, by simp⟩, HMEM.out⟩, hown.low HW.out, K0.out.then hkw, by simp⟩
        clear hmem hown hnd hle hkw hpth hI hrg hl0
        go_wp2_with fail
        refine (sortq_none a c _ _).mono ?_
        rintro e w2 ⟨rfl, rfl⟩
        go_wp2_with fail
        go_ret
        exact ⟨_, _, rfl, HR.out⟩
      · obtain ⟨gb, rfl⟩ : ∃ gb, a = some ⟨gb, 0, none⟩ := by
          rcases hown.2 with ⟨_, h0⟩ | ⟨g', cap, cur, e, _⟩
          · exact absurd (List.length_eq_zero_iff.1 h0) hn0
          · cases e; exact ⟨g', rfl⟩
        have hS := sortq_some _ wr w.heap.size gb c acc hown hpth hnd (by have := HLEN.out; omega)
        have hgb : w.heap.size ≤ gb := (hown.lt gb rfl).1
        obtain ⟨q, hq⟩ : ∃ q, q = acc.length := ⟨_, rfl⟩
        have HS := Lib.hid hS; have HKW := Lib.hid hkw; have HQ := Lib.hid hq
        rw [← hq] at HS ⊢
        clear hmem hown hnd hle hkw hpth hI hrg hl0 hS hq hn0
        go_wp2_with fail
        refine HS.out.mono ?_
        rintro e w2 ⟨rfl, r, hr1, hr2, hr3, hr4, hr5, hr6⟩
        have HR : Hid (NormRes w0 w2 l (.slice (some ⟨gb, 0, none⟩) q c) r) := ⟨⟨hr1, fun x => by rw [hr2 x]; exact HMEM.out x⟩, hr5.low HW.out, K0.out.then (HKW.out.trans hr6 (fun _ _ h => h) (fun i hi e => by omega)), by have := HLEN.out; have := HQ.out; omega⟩
        clear hr1 hr2 hr3 hr4 hr5 hr6
        go_wp2_with fail
        go_ret
        exact ⟨_, _, rfl, HR.out⟩
    · intro x cv kl y ys w1 cnt1 hkey hlx hv hat hrg1 hlt hg1 hs1 hen
      have hvb : vB cv = .bool (decide (cv = 1)) := rfl
      rw [hvb] at hv hen ⊢
      generalize decide (cv = 1) = cb at hv hen ⊢
      obtain ⟨x', ex, rfl, hxs1, hxs2⟩ := key_invQ hkey
      obtain rfl := perV_inj ex
      have hsx : smallQ x := ⟨hxs1, hxs2⟩
      have hxl : x ∈ l ∧ okP x = true := by
        have := has_true_of_atKey hat
        rw [(H2.out x hsx).1] at this
        exact (memP_iff l x).1 this
      have hxz := HBD.out x hxl.1
      have hmem := hI.out.mem
      have hxa : x ∉ acc := fun e => by have := ((hmem x).1 e).2.2.1; rw [hlx] at this; cases this
      have hk01 : Kept (fun k => k = w.heap.size) wr w1 := Kept.ofGrown hg1 (fun k e => (Option.some.inj e).symm)
      have hkw1 : Kept (fun _ => False) w w1 := hI.out.kept.trans hk01 (fun _ _ h => h) (fun i hi e => by omega)
      have hnotit : ∀ k, (Value.slice a acc.length c).ownBlock = some k → k ≠ w.heap.size := fun k hk e => by
        subst e
        have hb := hI.out.row
        rcases hb.2 with ⟨e, _⟩ | ⟨g', cap, cur, e, _, hh, _⟩
        · injection e with e1 e2 e3; rw [e1] at hk; cases hk
        · cases e
          have hgw : g' = w.heap.size := by simpa [Value.ownBlock] using hk
          obtain ⟨es, clock, since, seen, c0, _, _, _, _, h5, _⟩ := hrg
          rw [hgw, h5] at hh
          cases hh
      have hrow1 : OwnQ 27 w.heap.size w1 (.slice a acc.length c) acc := hI.out.row.kept hk01 hnotit
      have hnd := hI.out.nodup
      have hle := hI.out.len
      have hmapw1 := ownMQ_kept H1.out hkw1 (fun h => h)
      have hmem1 : excP l x = true → ∀ s, s ∈ acc ↔ (s ∈ l ∧ okP s = true ∧ (left (klQ s) && !(klQ s).sameKey (klQ x)) = false ∧ excP l s = false) := fun hkx s => by
        rw [hmem s]
        constructor
        · rintro ⟨a1, a2, a3, a4⟩; exact ⟨a1, a2, (leftQ (bdQ_small HBD.out a1) hsx).2 (Or.inl a3), a4⟩
        · rintro ⟨a1, a2, a3, a4⟩
          rcases (leftQ (bdQ_small HBD.out a1) hsx).1 a3 with a3 | rfl
          · exact ⟨a1, a2, a3, a4⟩
          · rw [hkx] at a4; cases a4
      have hmem2 : excP l x = false → ∀ s, s ∈ acc ++ [x] ↔ (s ∈ l ∧ okP s = true ∧ (left (klQ s) && !(klQ s).sameKey (klQ x)) = false ∧ excP l s = false) := fun hkx s => by
        rw [List.mem_append, hmem s, List.mem_singleton]
        constructor
        · rintro (⟨a1, a2, a3, a4⟩ | rfl)
          · exact ⟨a1, a2, (leftQ (bdQ_small HBD.out a1) hsx).2 (Or.inl a3), a4⟩
          · exact ⟨hxl.1, hxl.2, (leftQ hsx hsx).2 (Or.inr rfl), hkx⟩
        · rintro ⟨a1, a2, a3, a4⟩
          rcases (leftQ (bdQ_small HBD.out a1) hsx).1 a3 with a3 | rfl
          · exact Or.inl ⟨a1, a2, a3, a4⟩
          · exact Or.inr rfl
      have HM1 := Lib.hid hmem1; have HM2 := Lib.hid hmem2; have HND := Lib.hid hnd; have HXA := Lib.hid hxa
      have HRG1 := Lib.hid hrg1; have HROW1 := Lib.hid hrow1; have HKW1 := Lib.hid hkw1; have HLE := Lib.hid hle
      have HLEQ := Lib.hid hrg.left_eq
      have hal : acc.length ≤ 50000 := by omega
      have hax := ask_exc (l := l) hxl.2
      obtain ⟨xa, xp, xd⟩ := x
      simp only at hxz
      have HKx := Lib.hid (fun W (hW : Kept (fun _ => False) w1 W) => exceeds_any W m n D (memP l) ⟨xa, xp, xd⟩ (ownMQ_kept hmapw1 hW (fun h => h)) H2.out hxz.1 hxz.2)
      rw [hax] at HKx
      obtain ⟨b, hb⟩ : ∃ b, b = excP l ⟨xa, xp, xd⟩ := ⟨_, rfl⟩
      rw [← hb] at HKx
      have HB := Lib.hid hb
      obtain ⟨kx, hkx⟩ : ∃ kx, kx = klQ ⟨xa, xp, xd⟩ := ⟨_, rfl⟩
      rw [← hkx] at HM1 HM2 HRG1
      have HBX := Lib.hid (Bx.new w1 xa xp xd 27)
      rw [hs1] at HBX
      have HKA := Lib.hid (Kept.alloc (fun _ => False) w1 (.cells #[.string xa, .string xp, .bool xd] 27))
      unfold perV at HKx hen ⊢
      simp only at HKx hen ⊢
      clear hmem hxl hxz hxa hk01 hrow1 hnd hle hmem1 hmem2 hI hrg hrg1 hv hat hkey hg1 hvb hnotit hkw1 hb hax hmapw1 hsx hkx hxs1 hxs2 ex
      cases b with
      | true =>
        go_wp2_with (first
          | (go_at_call 46; refine (HKx.out _ HKA.out).mono ?_
             generalize w1.alloc (.cells #[.string xa, .string xp, .bool xd] 27) = W2 at *
             rintro e w3 ⟨rfl, hk3⟩; have HK3 := Lib.hid (HKA.out.then hk3); clear hk3))
        have HI3 : Hid (NmInv w w3 m n D l (.slice a acc.length c) acc (fun z => left z && !z.sameKey kx) cnt1) := ⟨rangesQ_kept HRG1.out HK3.out, HROW1.out.kept HK3.out (fun _ _ h => h), HM1.out HB.out.symm, HND.out, by have := HLE.out; omega, HKW1.out.then HK3.out⟩
        have HL3 := Lib.hid (rangesQ_kept HRG1.out HK3.out).left_eq
        go_roundw
        case rel => exact ⟨_, cnt1, a, c, acc, rfl, HI3⟩
        case measure => rw [HL3.out, HLEQ.out]; exact hlt
      | false =>
        go_wp2_with (first
          | (go_at_call 46; refine (HKx.out _ HKA.out).mono ?_
             generalize w1.alloc (.cells #[.string xa, .string xp, .bool xd] 27) = W2 at *
             rintro e w3 ⟨rfl, hk3⟩; have HK3 := Lib.hid (HKA.out.then hk3); obtain ⟨c0, c1, c2⟩ := HBX.out.stay hk3; have hsz3 := (HKW1.out.then HK3.out).size
             have HROW3 := Lib.hid (HROW1.out.kept HK3.out (fun _ _ h => h)); have HRG3 := Lib.hid (rangesQ_kept HRG1.out HK3.out); clear hk3)
          | (at_builtin; refine wpList_pushQ Tryd.underlying54 info_perQ (by rfl) _ _ rfl rfl w.heap.size _ acc w3.heap.size ⟨xa, xp, xd⟩ rfl rfl (HROW3.out.alloc _) (Bx.new w3 xa xp xd 27) (by omega) (by simp; omega) ?_; intro a' c' w4 hown4 hk4; have HOWN4 := Lib.hid hown4; have HKK4 := Lib.hid hk4; clear hown4 hk4))
        have hown4 := HOWN4.out
        have hk4 := HKK4.out
        have hka : Kept (fun _ => False) w3 (w3.alloc (.cells #[.string xa, .string xp, .bool xd] 27)) := Kept.alloc _ _ _
        have hrg4 : w4.ranges Tryd.prog 27 (plainElem Tryd.prog 4) m w.heap.size n D (fun z => left z && !z.sameKey kx) cnt1 := by
          have hq := rangesQ_kept HRG3.out hka
          obtain ⟨es, clock, since, seen, c0, q1, q2, q3, q4, q5, q6⟩ := hq
          have hnb : ∀ k, (Value.slice a acc.length c).ownBlock = some k → k ≠ w.heap.size ∧ w.heap.size ≤ k := fun k hk => by
            refine ⟨fun e => ?_, (HROW3.out.lt k hk).1⟩
            subst e
            rcases (HROW3.out.alloc (.cells #[.string xa, .string xp, .bool xd] 27)).2 with ⟨e, _⟩ | ⟨g', cap, cur, e, _, hh, _⟩
            · injection e with e1 e2 e3; rw [e1] at hk; cases hk
            · cases e
              have hgw : g' = w.heap.size := by simpa [Value.ownBlock] using hk
              rw [hgw, q5] at hh
              cases hh
          exact ⟨es, clock, since, seen, c0, (hk4.block m (Array.getElem?_eq_some_iff.1 q1).1 (fun e => by have := (hnb m e).2; omega)).trans q1, q2, q3, q4, (hk4.block w.heap.size (Array.getElem?_eq_some_iff.1 q5).1 (fun e => (hnb _ e).1 rfl)).trans q5, q6⟩
        have HI4 : Hid (NmInv w w4 m n D l (.slice a' (acc ++ [Per.mk xa xp xd]).length c') (acc ++ [⟨xa, xp, xd⟩]) (fun z => left z && !z.sameKey kx) cnt1) :=
          ⟨hrg4, by rw [List.length_append]; exact hown4, HM2.out HB.out.symm, by rw [List.nodup_append]; exact ⟨HND.out, by simp, fun p hp q hq e => by simp at hq; subst hq; subst e; exact HXA.out hp⟩, by rw [List.length_append]; have := HLE.out; simp; omega, ((HKW1.out.then HK3.out).then hka).trans hk4 (fun _ _ h => h) (fun i hi e => by have := (HROW3.out.lt i e).1; omega)⟩
        have HL4 := Lib.hid hrg4.left_eq
        clear hown4 hk4 hka hrg4
        go_roundw
        case rel => exact ⟨_, cnt1, a', c', acc ++ [Per.mk xa xp xd], by rw [List.length_append]; rfl, HI4⟩
        case measure => rw [HL4.out, HLEQ.out]; exact hlt
end Go.Proofs.YtcooacjpblhblaaDoor
/-
  Permissions: Text. strings.TrimSuffix and CutSuffix laid at this seat's program.
-/
namespace Go.Proofs.YtcooacjpblhblaaDoor
open Go.RowKit Go.Shelf
set_option linter.unusedSimpArgs false
set_option linter.unusedVariables false
set_option maxRecDepth 100000

def laysTrimS_ren : Go.Shelf.Ren := ⟨fun | 102 => 39 | 207 => 69 | 209 => 57 | n => n, fun | 3 => 3 | 4 => 4 | 9 => 9 | n => n, fun | n => n⟩
theorem laysTrimS : Go.Proofs.Lays.n102 Tryd.prog laysTrimS_ren := {
  mixed := by kernel_rfl
  f102 := Tryd.func39.trans (congrArg some (by kernel_rfl))
  f207 := Tryd.func69.trans (congrArg some (by kernel_rfl))
  f209 := Tryd.func57.trans (congrArg some (by kernel_rfl))
  t3 := Tryd.underlying3
  a3 := Tryd.isAgg3
  z3 := Tryd.sizeOf3
  v3 := Tryd.zeroValue3
  t4 := Tryd.underlying4
  a4 := Tryd.isAgg4
  z4 := Tryd.sizeOf4
  v4 := Tryd.zeroValue4
  t9 := Tryd.underlying9
  a9 := Tryd.isAgg9
  z9 := Tryd.sizeOf9
  v9 := Tryd.zeroValue9 }

def laysCutS_ren : Go.Shelf.Ren := ⟨fun | 104 => 41 | 207 => 69 | 211 => 59 | n => n, fun | 3 => 3 | 4 => 4 | 9 => 9 | 24 => 67 | n => n, fun | n => n⟩
theorem laysCutS : Go.Proofs.Lays.n104 Tryd.prog laysCutS_ren := {
  mixed := by kernel_rfl
  f104 := Tryd.func41.trans (congrArg some (by kernel_rfl))
  f207 := Tryd.func69.trans (congrArg some (by kernel_rfl))
  f211 := Tryd.func59.trans (congrArg some (by kernel_rfl))
  t3 := Tryd.underlying3
  a3 := Tryd.isAgg3
  z3 := Tryd.sizeOf3
  v3 := Tryd.zeroValue3
  t4 := Tryd.underlying4
  a4 := Tryd.isAgg4
  z4 := Tryd.sizeOf4
  v4 := Tryd.zeroValue4
  t9 := Tryd.underlying9
  a9 := Tryd.isAgg9
  z9 := Tryd.sizeOf9
  v9 := Tryd.zeroValue9
  t24 := Tryd.underlying67
  a24 := Tryd.isAgg67
  z24 := Tryd.sizeOf67
  v24 := Tryd.zeroValue67 }

/-- A text without a last stroke. -/
def trS (p : ByteArray) : ByteArray := ⟨(Lib.trimSuffix p.data.toList [47]).toArray⟩
theorem sh_Trim (p : ByteArray) (hp : p.size ≤ 1000000) (w : World) : Calls Tryd.prog 39 #[.string p, .string ⟨#[47]⟩] w fun e w' => e = .returned (.string (trS p)) ∧ w = w' :=
  (Any.strings_TrimSuffix laysTrimS p ⟨#[47]⟩ w (by omega)).mono fun _ _ ⟨h1, h2⟩ => ⟨h1, h2.symm⟩
theorem trS_size (p : ByteArray) : (trS p).size ≤ p.size := by
  show (Lib.trimSuffix p.data.toList [47]).toArray.size ≤ p.data.toList.length
  rw [List.size_toArray]
  unfold Lib.trimSuffix
  split
  · rw [List.length_take]; omega
  · exact Nat.le_refl _

/-- The text of a permission. -/
def txtP (x : Per) : ByteArray := if okP x then (if x.d then ((x.a ++ ⟨#[32]⟩) ++ trS x.p) ++ ⟨#[47, 42]⟩ else (x.a ++ ⟨#[32]⟩) ++ x.p) else ⟨#[]⟩

set_option maxHeartbeats 3200000 in
theorem ptext_any (x : Per) (hs : x.p.size ≤ 1000000) (w : World) :
    Calls Tryd.prog 21 #[perV x] w fun e w' => e = .returned (.string (txtP x)) ∧ Kept (fun _ => False) w w' := by
  have HO := Lib.hid (fun W => pok_any x hs W)
  have HT := Lib.hid (fun W => sh_Trim x.p hs W)
  obtain ⟨V, hV⟩ : ∃ V, V = txtP x := ⟨_, rfl⟩
  rw [← hV]
  unfold txtP at hV
  have hsm : okP x = true → x.a.size ≤ 12 ∧ x.p.size ≤ 10000 := fun h => okP_small h
  have htr := trS_size x.p
  obtain ⟨a, p, d⟩ := x
  unfold perV at *
  simp only at hV HT hsm htr
  generalize okP ⟨a, p, d⟩ = O at *
  generalize trS p = tp at *
  have HB := Lib.hid (Bx.new w a p d 27)
  have HK := Lib.hid (Kept.alloc (fun _ => False) w (.cells #[.string a, .string p, .bool d] 27))
  have HV := Lib.hid hV
  have HSM := Lib.hid hsm
  clear hs hV hsm
  go_enter Tryd.func21, Tryd.ntmps21
  go_wp2_with fail
  refine (HO.out _).mono ?_
  generalize w.alloc (.cells #[.string a, .string p, .bool d] 27) = W1 at *
  generalize w.heap.size = Q at *
  rintro e w2 ⟨rfl, k2⟩
  obtain ⟨c0, c1, c2⟩ := HB.out.stay k2
  have HK2 := Lib.hid (HK.out.then k2)
  clear k2 HO HB HK
  cases O with
  | false =>
    have hv : V = ⟨#[]⟩ := by rw [HV.out]; rfl
    subst hv
    go_wp2_with fail
    go_ret
    exact ⟨rfl, HK2.out⟩
  | true =>
    obtain ⟨h1, h2⟩ := HSM.out rfl
    have g1 : ¬ 9223372036854775807 < a.size + 1 := by omega
    cases d with
    | false =>
      have hv : V = (a ++ ⟨#[32]⟩) ++ p := by rw [HV.out]; rfl
      have g2 : ¬ 9223372036854775807 < a.size + 1 + p.size := by omega
      have HV2 := Lib.hid hv
      clear HV hv HSM htr h1 h2
      go_wp2_with fail
      go_ret
      exact ⟨by rw [HV2.out]; rfl, HK2.out⟩
    | true =>
      have hv : V = ((a ++ ⟨#[32]⟩) ++ tp) ++ ⟨#[47, 42]⟩ := by rw [HV.out]; rfl
      have g2 : ¬ 9223372036854775807 < a.size + 1 + tp.size := by omega
      have g3 : ¬ 9223372036854775807 < a.size + 1 + tp.size + 2 := by omega
      have HV2 := Lib.hid hv
      clear HV hv HSM htr h1 h2
      go_wp2_with fail
      go_quiet ((go_at_call 39; with_reducible exact Calls.quiet_of_same ((HT.out _).mono fun e w' h => ⟨h.1, h.2.symm⟩)))
      go_wp2_with fail
      go_ret
      exact ⟨by rw [HV2.out]; rfl, HK2.out.drewN nq⟩
end Go.Proofs.YtcooacjpblhblaaDoor
/-
  arbaclaw11.awake returns true.
-/
namespace Go.Proofs.YtcooacjpblhblaaDoor
open Go.RowKit
set_option linter.unusedSimpArgs false
set_option linter.unusedVariables false

def sRead : ByteArray := ⟨#[114, 101, 97, 100]⟩
def sWrite : ByteArray := ⟨#[119, 114, 105, 116, 101]⟩
def pA : ByteArray := ⟨#[47, 97]⟩
def pAB : ByteArray := ⟨#[47, 97, 47, 98]⟩
def pab : ByteArray := ⟨#[47, 97, 98]⟩
def pC : ByteArray := ⟨#[47, 99]⟩
def awL : List Per := [⟨sRead, pAB, false⟩, ⟨sRead, pA, true⟩, ⟨sWrite, pC, false⟩, ⟨sRead, pAB, true⟩]
def awN : List Per := [⟨sRead, pA, true⟩, ⟨sWrite, pC, false⟩]
theorem awN_sorted : SortQ awN := by
  refine ⟨?_, ?_⟩ <;> decide +kernel
theorem awN_norm : NormS awL awN := by
  refine ⟨awN_sorted, fun x => ?_⟩
  by_cases h : x ∈ awL
  · have hall : ∀ y ∈ awL, (y ∈ awN ↔ okP y = true ∧ excP awL y = false) := by decide +kernel
    rw [hall x h]
    exact ⟨fun e => ⟨h, e⟩, fun e => e.2⟩
  · refine ⟨fun e => absurd ?_ h, fun e => absurd e.1 h⟩
    have hall : ∀ y ∈ awN, y ∈ awL := by decide +kernel
    exact hall x e
theorem awL_small : bdQ awL := by
  have hall : ∀ y ∈ awL, y.a.size ≤ 1000000 ∧ y.p.size ≤ 100000 := by decide +kernel
  exact hall
theorem aw_cov1 : covP ⟨sRead, pA, true⟩ sRead pAB = true := by decide +kernel
theorem aw_cov2 : covP ⟨sRead, pA, true⟩ sRead pab = false := by decide +kernel
theorem aw_txt : txtP ⟨sRead, pA, true⟩ = ⟨#[114, 101, 97, 100, 32, 47, 97, 47, 42]⟩ := by decide +kernel

theorem pers_new (w : World) (cs : Array Value) (T : TypeId) (n : Nat) (l : List Per) (hn : n = l.length) (hcs : cs.toList = flatQ l) (hm : n ≤ maxLen) : Pers (w.alloc (.cells cs T)) (.slice (some ⟨w.heap.size, 0, none⟩) n n) l := by
  subst hn
  refine Or.inr ⟨w.heap.size, 0, l.length, rfl, Nat.le_refl _, hm, by simp, fun i hi => ?_⟩
  obtain ⟨a0, a1, a2⟩ := flatQ_at l i hi
  have hc : ∀ j, (w.alloc (.cells cs T)).cell? ⟨w.heap.size, j, none⟩ = (flatQ l)[j]? := fun j => by
    rw [← hcs]
    unfold World.cell?
    rw [heap_alloc_new]
    simp
  rw [Nat.zero_add]
  exact ⟨(hc _).trans a0, (hc _).trans a1, (hc _).trans a2⟩

set_option maxRecDepth 100000 in
set_option maxHeartbeats 3200000 in
theorem awake11_any (w : World) : Calls Tryd.prog 9 #[] w fun e w' => e = .returned (.bool true) ∧ Kept (fun _ => False) w w' := by
  obtain ⟨W1, hW1⟩ : ∃ W1, W1 = w.alloc (.cells #[.string sRead, .string pA, .bool true] 27) := ⟨_, rfl⟩
  obtain ⟨cs, hcs⟩ : ∃ cs : Array Value, cs = #[.string sRead, .string pAB, .bool false, .string sRead, .string pA, .bool true, .string sWrite, .string pC, .bool false, .string sRead, .string pAB, .bool true] := ⟨_, rfl⟩
  have hsz : W1.heap.size = w.heap.size + 1 := by rw [hW1]; simp
  have hP := pers_new W1 cs 27 4 awL rfl (by rw [hcs]; rfl) (by unfold maxLen; omega)
  have hB := (Bx.new w sRead pA true 27)
  rw [← hW1] at hB
  have hB2 := hB.stay (Kept.alloc (fun _ => False) W1 (.cells cs 27))
  have hK : Kept (fun _ => False) w (W1.alloc (.cells cs 27)) := by rw [hW1]; exact (Kept.alloc _ _ _).then (Kept.alloc _ _ _)
  rw [hsz] at hP
  have HC1 : Hid (∀ W, Calls Tryd.prog 15 #[.agg #[.string sRead, .string pA, .bool true], .string sRead, .string pAB] W fun e w' => e = .returned (.bool true) ∧ Kept (fun _ => False) W w') := fun W => by
    have := pcov_any ⟨sRead, pA, true⟩ sRead pAB (by decide) (by decide) W
    rw [aw_cov1] at this; exact this
  have HC2 : Hid (∀ W, Calls Tryd.prog 15 #[.agg #[.string sRead, .string pA, .bool true], .string sRead, .string pab] W fun e w' => e = .returned (.bool false) ∧ Kept (fun _ => False) W w') := fun W => by
    have := pcov_any ⟨sRead, pA, true⟩ sRead pab (by decide) (by decide) W
    rw [aw_cov2] at this; exact this
  have HTX : Hid (∀ W, Calls Tryd.prog 21 #[.agg #[.string sRead, .string pA, .bool true]] W fun e w' => e = .returned (.string ⟨#[114, 101, 97, 100, 32, 47, 97, 47, 42]⟩) ∧ Kept (fun _ => False) W w') := fun W => by
    have := ptext_any ⟨sRead, pA, true⟩ (by decide) W
    rw [aw_txt] at this; exact this
  have HP := Lib.hid hP; have HB := Lib.hid hB2; have HK := Lib.hid hK
  have HN := Lib.hid (fun W (h : Pers W (.slice (some ⟨w.heap.size + 1, 0, none⟩) 4 4) awL) => normal_any W _ awL h awL_small (by decide))
  clear hP hB hB2 hK hsz
  subst hW1 hcs
  unfold sRead sWrite pA pAB pab pC at *
  go_enter Tryd.func9, Tryd.ntmps9
  go_wp2_with fail
  refine (HN.out _ HP.out).mono ?_
  rintro e w4 ⟨v4, r, rfl, hr⟩
  obtain rfl := hr.norm.unique awN_norm
  have P4 := HP.out.kept hr.kept (fun _ _ h => h)
  have B4 := HB.out.stay hr.kept
  have K4 := Lib.hid (HK.out.then hr.kept)
  have N4 := hr.own.pers
  obtain ⟨g, off, cap, rfl, hc1, hc2, hg, hn⟩ : ∃ g off cap, v4 = .slice (some ⟨g, off, none⟩) 2 cap ∧ 2 ≤ cap ∧ cap ≤ maxLen ∧ g < w4.heap.size ∧ ∀ i, i < awN.length → PerAt w4 g (off + i * 3) (awN.getD i per0) := by
    rcases N4 with ⟨_, h⟩ | ⟨g, off, cap, h, h1, h2, h3, h4⟩
    · cases h
    · exact ⟨g, off, cap, h, h1, h2, h3, h4⟩
  obtain ⟨n0, n1, n2⟩ := hn 0 (by decide)
  obtain ⟨n3, n4, n5⟩ := hn 1 (by decide)
  obtain ⟨q0, q1, q2⟩ : PerAt w4 (w.heap.size + 1) (0 + 2 * 3) (awL.getD 2 per0) := by
    rcases P4 with ⟨h, _⟩ | ⟨g', off', cap', h, _, _, _, h4⟩
    · cases h
    · cases h; exact h4 2 (by decide)
  obtain ⟨b0, b1, b2⟩ := B4
  have hS : ∀ W, Kept (fun _ => False) w4 W → (W.cell? ⟨w.heap.size, 0, none⟩ = some (.string ⟨#[114, 101, 97, 100]⟩) ∧ W.cell? ⟨w.heap.size, 1, none⟩ = some (.string ⟨#[47, 97]⟩) ∧ W.cell? ⟨w.heap.size, 2, none⟩ = some (.bool true)) ∧
      (W.cell? ⟨g, off, none⟩ = some (.string ⟨#[114, 101, 97, 100]⟩) ∧ W.cell? ⟨g, off + 1, none⟩ = some (.string ⟨#[47, 97]⟩) ∧ W.cell? ⟨g, off + 2, none⟩ = some (.bool true)) ∧
      (W.cell? ⟨g, off + 3, none⟩ = some (.string ⟨#[119, 114, 105, 116, 101]⟩) ∧ W.cell? ⟨g, off + 4, none⟩ = some (.string ⟨#[47, 99]⟩) ∧ W.cell? ⟨g, off + 5, none⟩ = some (.bool false)) ∧
      W.cell? ⟨w.heap.size + 1, 6, none⟩ = some (.string ⟨#[119, 114, 105, 116, 101]⟩) ∧ W.cell? ⟨w.heap.size + 1, 7, none⟩ = some (.string ⟨#[47, 99]⟩) ∧ W.cell? ⟨w.heap.size + 1, 8, none⟩ = some (.bool false) := fun W hk => by
    have f : ∀ {p : Addr} {v : Value}, w4.cell? p = some v → W.cell? p = some v := fun {p v} h => (hk.cell (World.block_lt_of_cell? w4 _ h) (fun h => h)).trans h
    exact ⟨⟨f b0, f b1, f b2⟩, ⟨f n0, f n1, f n2⟩, ⟨f n3, f n4, f n5⟩, f q0, f q1, f q2⟩
  have HS := Lib.hid hS
  obtain ⟨⟨b0, b1, b2⟩, ⟨n0, n1, n2⟩, ⟨n3, n4, n5⟩, q0, q1, q2⟩ := hS w4 (Kept.refl _ _)
  clear HN HP HB HK hr N4 P4 hS
  unfold maxLen at hc2
  generalize w.heap.size = Q at *
  go_wp2_with fail
  go_region_held3 (fun W => (W.cell? ⟨Q, 0, none⟩ = some (.string ⟨#[114, 101, 97, 100]⟩) ∧ W.cell? ⟨Q, 1, none⟩ = some (.string ⟨#[47, 97]⟩) ∧ W.cell? ⟨Q, 2, none⟩ = some (.bool true)) ∧
      (W.cell? ⟨g, off, none⟩ = some (.string ⟨#[114, 101, 97, 100]⟩) ∧ W.cell? ⟨g, off + 1, none⟩ = some (.string ⟨#[47, 97]⟩) ∧ W.cell? ⟨g, off + 2, none⟩ = some (.bool true)) ∧
      (W.cell? ⟨g, off + 3, none⟩ = some (.string ⟨#[119, 114, 105, 116, 101]⟩) ∧ W.cell? ⟨g, off + 4, none⟩ = some (.string ⟨#[47, 99]⟩) ∧ W.cell? ⟨g, off + 5, none⟩ = some (.bool false)) ∧
      W.cell? ⟨Q + 1, 6, none⟩ = some (.string ⟨#[119, 114, 105, 116, 101]⟩) ∧ W.cell? ⟨Q + 1, 7, none⟩ = some (.string ⟨#[47, 99]⟩) ∧ W.cell? ⟨Q + 1, 8, none⟩ = some (.bool false))
    (first | exact HS.out _ KC.out | exact HS.out _ (Kept.refl _ _) | exact HS.out _ (Kept.refl _ _).drew)
    ((first | (go_at_call 15; with_reducible refine (HC1.out _).mono ?_; rintro e q1 ⟨rfl, j1⟩; have KC := Lib.hid (Kept.then (show Kept (fun _ => False) w4 _ from (by first | exact KC.out | exact Kept.refl _ _ | exact (Kept.refl _ _).drew)) j1); clear j1) | (go_at_call 15; with_reducible refine (HC2.out _).mono ?_; rintro e q1 ⟨rfl, j1⟩; have KD := Lib.hid (Kept.then (show Kept (fun _ => False) w4 _ from (by first | exact KC.out | exact Kept.refl _ _ | exact (Kept.refl _ _).drew)) j1); clear KC; have KC := KD; clear KD; clear j1) | (go_at_call 21; with_reducible refine (HTX.out _).mono ?_; rintro e q1 ⟨rfl, j1⟩; have KD := Lib.hid (Kept.then (show Kept (fun _ => False) w4 _ from (by first | exact KC.out | exact Kept.refl _ _ | exact (Kept.refl _ _).drew)) j1); clear KC; have KC := KD; clear KD; clear j1)))
  have HEnd := Lib.hid (K4.out.then KC.out)
  clear KC
  go_wp2_with fail
  go_ret
  exact ⟨rfl, HEnd.out⟩
end Go.Proofs.YtcooacjpblhblaaDoor
/-
  Tables of names in memory: names.New, Len, Number, maps.Copy, slices.Clone, put.
-/
namespace Go.Proofs.YtcooacjpblhblaaDoor
open Go.RowKit Go.Maps Go.WideMaps Go.ChangeMaps

theorem lawS : Keyed Tryd.prog 9 := string_keyed Tryd.underlying9
theorem zeroI (w : World) : (zeroValue 3).run Tryd.prog w = .ok (.int .i64 0) w := by kernel_rfl
theorem info_str : (Tryd.prog.info? 9).map (fun i => (i.zero, i.size, i.bytes)) = some (some (.string ⟨#[]⟩), 1, 16) := by kernel_rfl

/-- The place of a string in a list, from 1 on; 0: it is not there. -/
def posS : List ByteArray → ByteArray → Nat
  | [], _ => 0
  | x :: xs, s => if s.toList == x.toList then 1 else if posS xs s = 0 then 0 else posS xs s + 1
theorem posS_zero (s : ByteArray) : ∀ xs : List ByteArray, posS xs s = 0 ↔ s ∉ xs
  | [] => by simp [posS]
  | x :: xs => by
    have ih := posS_zero s xs
    rw [posS, str_eq]
    by_cases h : s = x
    · simp [h]
    · by_cases h2 : posS xs s = 0
      · simp [h, h2, ih.1 h2]
      · have := Classical.not_not.1 ((not_congr ih).1 h2)
        simp [h, h2, this]
theorem posS_le (s : ByteArray) : ∀ xs : List ByteArray, posS xs s ≤ xs.length
  | [] => by simp [posS]
  | x :: xs => by
    have ih := posS_le s xs
    rw [posS, List.length_cons]
    split
    · omega
    · split <;> omega
theorem posS_snoc_self (s : ByteArray) : ∀ xs : List ByteArray, posS xs s = 0 → posS (xs ++ [s]) s = xs.length + 1
  | [], _ => by simp [posS]
  | x :: xs, h => by
    rw [posS] at h
    have hx : (s.toList == x.toList) = false := by
      cases e : (s.toList == x.toList) with
      | false => rfl
      | true => rw [e] at h; simp at h
    have h0 : posS xs s = 0 := by
      rw [hx] at h
      by_cases e : posS xs s = 0
      · exact e
      · rw [if_neg (by decide), if_neg e] at h; omega
    have ih := posS_snoc_self s xs h0
    rw [List.cons_append, posS, hx, ih]
    simp
theorem posS_snoc_other {s y : ByteArray} (hne : s ≠ y) : ∀ xs : List ByteArray, posS (xs ++ [y]) s = posS xs s
  | [] => by simp [posS, str_eq, hne]
  | x :: xs => by
    have ih := posS_snoc_other hne xs
    rw [List.cons_append, posS, posS, ih]

/-- What a table's map says: the numbers of the names. -/
def MapOk (D : DataW Unit) (xs : List ByteArray) : Prop :=
  ∀ s : ByteArray, Maps.has D (.string s.data.toList) = decide (0 < posS xs s) ∧ (D.atKey (.string s.data.toList) (.lit (.int .i64 0)) = .lit (.int .i64 (posS xs s : Nat)))

theorem key_ne {s y : ByteArray} (h : s ≠ y) : Lit.string s.data.toList ≠ Lit.string y.data.toList := fun e => by
  injection e with e
  exact h (by cases s; cases y; simp only [ByteArray.mk.injEq]; exact Array.ext' e)

theorem MapOk.nil : MapOk (.map []) [] := fun s => ⟨by simp [posS, Maps.has], by simp [posS]; rfl⟩
theorem MapOk.put {D : DataW Unit} {xs : List ByteArray} {y : ByteArray} (h : MapOk D xs) (hD : IsMap D) (h0 : posS xs y = 0) : MapOk (D.put (.string y.data.toList) (.lit (.int .i64 (xs.length + 1 : Nat)))) (xs ++ [y]) := fun s => by
  by_cases e : s = y
  · subst e
    rw [posS_snoc_self s xs h0]
    exact ⟨by rw [has_put_same (k := .string s.data.toList) hD trivial]; simp, by rw [atKey_put_same (k := .string s.data.toList) hD trivial]⟩
  · rw [posS_snoc_other e, has_put_other (key_ne e), atKey_put_other (key_ne e)]
    exact h s

/-- A table in memory: its names' row, its map. -/
structure TabAt (w : World) (g : Nat) (xs : List ByteArray) (v : Value) (m n : Nat) (D : DataW Unit) : Prop where
  c0 : w.cell? ⟨g, 0, none⟩ = some v
  c1 : w.cell? ⟨g, 1, none⟩ = some (.map (some m))
  f0 : w.frozen? ⟨g, 0, none⟩ = false
  row : w.ownsRow 0 9 1 v xs.length (xs.map Value.string)
  map : w.ownsMap Tryd.prog 9 (plainElem Tryd.prog 3) m n D
  ok : MapOk D xs
  nle : n ≤ xs.length
  le : xs.length ≤ 256
  short : ∀ x ∈ xs, x.size ≤ 12
  lt : g < w.heap.size
  ap1 : v.ownBlock ≠ some g
  ap2 : m ≠ g
  ap3 : v.ownBlock ≠ some m

theorem ownsMap_kept {S : Nat → Prop} {a b : World} {m n : Nat} {D : DataW Unit} (h : a.ownsMap Tryd.prog 9 (plainElem Tryd.prog 3) m n D) (hk : Kept S a b) (hn : ¬ S m) : b.ownsMap Tryd.prog 9 (plainElem Tryd.prog 3) m n D := by
  have hlt := h.lt
  obtain ⟨es, clock, h1, h2⟩ := h
  exact ⟨es, clock, (hk.block m hlt hn).trans h1, h2⟩

theorem TabAt.kept {S : Nat → Prop} {a b : World} {g : Nat} {xs : List ByteArray} {v : Value} {m n : Nat} {D : DataW Unit} (h : TabAt a g xs v m n D) (hk : Kept S a b) (h1 : ¬ S g) (h2 : ∀ k, v.ownBlock = some k → ¬ S k) (h3 : ¬ S m) : TabAt b g xs v m n D :=
  ⟨(hk.cell (p := ⟨g, 0, none⟩) h.lt h1).trans h.c0, (hk.cell (p := ⟨g, 1, none⟩) h.lt h1).trans h.c1, (hk.frozen (p := ⟨g, 0, none⟩) h.lt h1).trans h.f0, hk.owns h.row h2, ownsMap_kept h.map hk h3, h.ok, h.nle, h.le, h.short,
    Nat.lt_of_lt_of_le h.lt hk.size, h.ap1, h.ap2, h.ap3⟩
theorem TabAt.stay {a b : World} {g : Nat} {xs : List ByteArray} {v : Value} {m n : Nat} {D : DataW Unit} (h : TabAt a g xs v m n D) (hk : Kept (fun _ => False) a b) : TabAt b g xs v m n D := h.kept hk (fun h => h) (fun _ _ h => h) (fun h => h)

theorem strs_own {w : World} {B : Nat} {v : Value} {xs : List ByteArray} (h : w.ownsRow B 9 1 v xs.length (xs.map Value.string)) : Strs w v xs := by
  have hc := fun g (hg : v.ownBlock = some g) => h.cells hg
  rcases h.2 with ⟨h1, h0⟩ | ⟨g, cap, cur, h1, hb, hg, hn, hm, _⟩
  · exact Or.inl ⟨h1, List.length_eq_zero_iff.1 h0⟩
  · subst h1
    refine Or.inr ⟨g, 0, cap, rfl, hn, hm, (Array.getElem?_eq_some_iff.1 hg).1, fun i hi => ?_⟩
    have := hc g rfl i (.string (xs.getD i ⟨#[]⟩)) (by simp [List.getD, hi])
    have hadd : (⟨g, 0, none⟩ : Addr).add i = ⟨g, 0 + i, none⟩ := by unfold Addr.add; split <;> simp_all
    rwa [hadd] at this

end Go.Proofs.YtcooacjpblhblaaDoor
/-
  Tables of names: slices.Clone of strings, maps.Copy, put.
-/
namespace Go.Proofs.YtcooacjpblhblaaDoor
open Go.RowKit Go.Maps Go.WideMaps Go.ChangeMaps

theorem strv_getD (xs : List ByteArray) (i : Nat) (hi : i < xs.length) : (xs.map Value.string)[i]? = some (.string (xs.getD i ⟨#[]⟩)) := by simp [List.getD, hi]

theorem key_inv {v : Value} {kl : Lit} (h : keyOf Tryd.prog 9 v = some kl) : ∃ s : ByteArray, v = .string s ∧ kl = .string s.data.toList ∧ s.size ≤ maxLen := by
  rw [keyOf_string Tryd.underlying9] at h
  unfold mapKey at h
  cases v <;> simp [Tryd.underlying9] at h
  rename_i s
  exact ⟨s, rfl, h.2.symm, h.1⟩

end Go.Proofs.YtcooacjpblhblaaDoor
/-
  Tables of names: put, refuses, Add.
-/
namespace Go.Proofs.YtcooacjpblhblaaDoor
open Go.RowKit Go.Maps Go.WideMaps Go.ChangeMaps

/-- The error of adding a name. -/
def refS (xs : List ByteArray) (s : ByteArray) (most : Int) : Int :=
  if validS s = false then 9 else if 0 < posS xs s then 5 else if most ≤ xs.length ∨ 256 ≤ xs.length then 14 else 0

end Go.Proofs.YtcooacjpblhblaaDoor
/-
  Tables of names: Add.
-/
namespace Go.Proofs.YtcooacjpblhblaaDoor
open Go.RowKit Go.Maps Go.WideMaps Go.ChangeMaps

theorem validS_size {s : ByteArray} (h : validS s = true) : s.size ≤ 12 := by
  unfold validS at h
  simp only [Bool.and_eq_true, decide_eq_true_eq] at h
  exact h.1.1.2
theorem refS_ok {xs : List ByteArray} {s : ByteArray} {most : Int} (h : refS xs s most = 0) : s.size ≤ 12 ∧ posS xs s = 0 ∧ xs.length < 256 ∧ (xs.length : Int) < most := by
  unfold refS at h
  by_cases hv : validS s = false
  · rw [if_pos hv] at h; omega
  · rw [if_neg hv] at h
    have hv2 : validS s = true := by simpa using hv
    by_cases hp : 0 < posS xs s
    · rw [if_pos hp] at h; omega
    · rw [if_neg hp] at h
      by_cases hm : most ≤ (xs.length : Int) ∨ 256 ≤ xs.length
      · rw [if_pos hm] at h; omega
      · exact ⟨validS_size hv2, by omega, by omega, by omega⟩

end Go.Proofs.YtcooacjpblhblaaDoor
/-
  Strings of bytes; wire.Writer.Flag.
-/
namespace Go.Proofs.YtcooacjpblhblaaDoor
open Go.RowKit

/-- A string of bytes. -/
def strOf (xs : List Nat) : ByteArray := strOfNums (xs.map fun n : Nat => (n : Int))

theorem strOf_bytes {xs : List Nat} (h : ∀ b ∈ xs, b < 256) : strB (strOf xs) = xs := by
  unfold strB strOf
  rw [strOfNums_data, List.map_map, List.map_map]
  conv => rhs; rw [← List.map_id xs]
  refine List.map_congr_left fun b hb => ?_
  simp [Nat.mod_eq_of_lt (h b hb)]

theorem strOf_size (xs : List Nat) : (strOf xs).size = xs.length := by
  unfold strOf
  rw [strOfNums_size]; simp

/-- The encoding of a flag. -/
def encFlag (b : Bool) : List Nat := if b then [1] else [0]

end Go.Proofs.YtcooacjpblhblaaDoor
/-
  Tables of names: Bytes; the chapter's second example (arbaclaw08.awake).
-/
namespace Go.Proofs.YtcooacjpblhblaaDoor
open Go.RowKit Go.Maps Go.WideMaps Go.ChangeMaps

/-- The encodings of some texts. -/
def encL : List ByteArray → List Nat
  | [] => []
  | x :: xs => (enc x.size ++ strB x) ++ encL xs
theorem encL_append : ∀ xs ys : List ByteArray, encL (xs ++ ys) = encL xs ++ encL ys
  | [], _ => rfl
  | x :: xs, ys => by rw [List.cons_append, encL, encL, encL_append xs ys]; simp only [List.append_assoc]
theorem encL_take (xs : List ByteArray) (k : Nat) (hk : k < xs.length) : encL (xs.take (k + 1)) = encL (xs.take k) ++ (enc (xs.getD k ⟨#[]⟩).size ++ strB (xs.getD k ⟨#[]⟩)) := by
  rw [List.take_succ_eq_append_getElem hk, encL_append]
  simp [encL, List.getD, hk]
theorem encL_len : ∀ xs : List ByteArray, (∀ x ∈ xs, x.size ≤ 12) → (encL xs).length ≤ 22 * xs.length
  | [], _ => by simp [encL]
  | x :: xs, h => by
    have ih := encL_len xs (fun y hy => h y (List.mem_cons_of_mem _ hy))
    have h1 := h x List.mem_cons_self
    have h2 := enc_len (v := x.size) (by omega)
    have h3 := strB_length x
    rw [encL, List.length_append, List.length_append, List.length_cons]; omega

/-- A writer of the call's own. -/
structure WK8 (w wr : World) (wb : Nat) (v : Value) (xs : List Nat) : Prop where
  wri : Wr wr wb v wb xs
  kept : Kept (fun _ => False) w wr
  base : w.heap.size ≤ wb
theorem WK8.step {w w1 w2 : World} {wb : Nat} {v v' : Value} {xs ys : List Nat} (h : WK8 w w1 wb v xs) (hw : Wr w2 wb v' wb ys) (hs : WStep w1 w2 wb v v') : WK8 w w2 wb v' ys := by
  have hb := h.base
  refine ⟨hw, h.kept.trans hs.kept (fun _ _ h => h) (fun i hi e => ?_), hb⟩
  rcases e with e | e
  · omega
  · have := (h.wri.own.lt _ e).1; omega

theorem memS_data (s : ByteArray) (xs : List ByteArray) : memS s xs = xs.any fun x => s.data.toList == x.data.toList := by
  unfold memS
  congr 1
  funext x
  rw [ByteArray.toList_eq, ByteArray.toList_eq]

def sClerk : ByteArray := ⟨#[99, 108, 101, 114, 107]⟩
def sAuditor : ByteArray := ⟨#[97, 117, 100, 105, 116, 111, 114]⟩
def sX : ByteArray := ⟨#[120]⟩
theorem v_clerk : validS sClerk = true := by unfold validS; rw [memS_data]; decide +kernel
theorem v_auditor : validS sAuditor = true := by unfold validS; rw [memS_data]; decide +kernel
theorem v_x : validS sX = true := by unfold validS; rw [memS_data]; decide +kernel
theorem n_ac : sAuditor ≠ sClerk := fun h => by
  have := congrArg (fun s : ByteArray => s.data.toList) h
  revert this; decide +kernel
theorem n_xc : sX ≠ sClerk := fun h => by
  have := congrArg (fun s : ByteArray => s.data.toList) h
  revert this; decide +kernel
theorem n_xa : sX ≠ sAuditor := fun h => by
  have := congrArg (fun s : ByteArray => s.data.toList) h
  revert this; decide +kernel

theorem r_1 : refS [] sClerk 9 = 0 := by unfold refS; rw [v_clerk]; simp [posS]
theorem r_2 : refS [sClerk] sAuditor 9 = 0 := by unfold refS; rw [v_auditor]; simp [posS, str_eq, n_ac]
theorem r_3 : refS [sClerk, sAuditor] sClerk 9 = 5 := by unfold refS; rw [v_clerk]; simp [posS]
theorem r_4 : refS [sClerk, sAuditor] sX 2 = 14 := by unfold refS; rw [v_x]; simp [posS, str_eq, n_xc, n_xa]

theorem enc_small (n : Nat) (h : n < 128) : enc n = [n] := by
  rw [enc, show n / 128 = 0 by omega, encHi_zero, Nat.mod_eq_of_lt h]; rfl
theorem bytes_ex : enc ([sClerk, sAuditor] : List ByteArray).length ++ encL [sClerk, sAuditor] = [2, 5, 99, 108, 101, 114, 107, 7, 97, 117, 100, 105, 116, 111, 114] := by
  have h1 : sClerk.size = 5 := rfl
  have h2 : sAuditor.size = 7 := rfl
  have h3 : strB sClerk = [99, 108, 101, 114, 107] := by decide +kernel
  have h4 : strB sAuditor = [97, 117, 100, 105, 116, 111, 114] := by decide +kernel
  simp only [encL, h1, h2, h3, h4, List.length_cons, List.length_nil]
  rw [enc_small 2 (by omega), enc_small 5 (by omega), enc_small 7 (by omega)]
  rfl
theorem str_ex : strOfNums (([2, 5, 99, 108, 101, 114, 107, 7, 97, 117, 100, 105, 116, 111, 114] : List Nat).map fun n : Nat => (n : Int)) = ⟨#[2, 5, 99, 108, 101, 114, 107, 7, 97, 117, 100, 105, 116, 111, 114]⟩ := by
  apply ByteArray.ext
  decide +kernel

end Go.Proofs.YtcooacjpblhblaaDoor
/-
  The reference of names: Valid, Keywords, Word; arbaclaw08.NamesValid returns true.
-/
namespace Go.Proofs.YtcooacjpblhblaaDoor
open Go.RowKit

set_option maxRecDepth 100000 in
theorem rkeywords_any (w : World) : Calls Tryd.prog 52 #[] w fun e w' => e = .returned (.slice (some ⟨w.heap.size, 0, none⟩) 20 20) ∧ Strs w' (.slice (some ⟨w.heap.size, 0, none⟩) 20 20) kwdL ∧ Kept (fun _ => False) w w' := by
  have hs := strs_new w (kwdL.map Value.string).toArray 9 20 kwdL rfl rfl (by unfold maxLen; omega)
  have hk := Kept.alloc (fun _ => False) w (.cells (kwdL.map Value.string).toArray 9)
  have HS := Lib.hid hs; have HK := Lib.hid hk
  clear hs hk
  go_enter Tryd.func52, Tryd.ntmps52
  go_wp2_with fail
  go_ret
  exact ⟨rfl, HS.out, HK.out⟩

set_option maxRecDepth 100000 in
set_option maxHeartbeats 3200000 in
theorem rvalid_any (s : ByteArray) (w : World) : Calls Tryd.prog 29 #[.string s] w fun e w' => e = .returned (.bool (validS s)) ∧ Kept (fun _ => False) w w' := by
  obtain ⟨V, hV⟩ : ∃ V, V = validS s := ⟨_, rfl⟩
  rw [← hV]
  have HV := Lib.hid hV
  clear hV
  have hAt := bat_at s
  have HAT := Lib.hid hAt
  clear hAt
  by_cases h0 : s.size = 0
  · have hv : V = false := by rw [HV.out]; exact validS_bad (Or.inl h0)
    subst hv
    go_enter Tryd.func29, Tryd.ntmps29
    go_wp2_with fail
    go_ret
    exact ⟨rfl, Kept.refl _ _⟩
  by_cases h12 : 12 < s.size
  · have h12i : (12 : Int) < (s.size : Int) := by omega
    have h0i : ¬ (s.size : Int) = 0 := by omega
    have hv : V = false := by rw [HV.out]; exact validS_bad (Or.inr (Or.inl h12))
    subst hv
    go_enter Tryd.func29, Tryd.ntmps29
    go_wp2_with fail
    go_ret
    exact ⟨rfl, Kept.refl _ _⟩
  have h12i : ¬ (12 : Int) < (s.size : Int) := by omega
  have h0i : ¬ (s.size : Int) = 0 := by omega
  have hsz : s.size ≤ 12 := by omega
  have hs0 : s.size ≠ 0 := h0
  have HS0 := Lib.hid hs0
  clear h12 hs0
  go_enter Tryd.func29, Tryd.ntmps29
  go_wp2_with fail
  clear h12i h0i h0
  go_loop [3] (fun iv => ∃ k : Nat, k ≤ s.size ∧ iv = .int .i64 k ∧ Hid (∀ j, j < k → chrB (bat s j) j = true)) (fun iv => s.size - (intOf iv).toNat)
  case atStart => exact ⟨0, by omega, rfl, fun j hj => by omega⟩
  case round =>
    obtain ⟨k, hk, rfl, hgo⟩ := hrel
    by_cases hlt : k < s.size
    · have l1 : (k : Int) < (s.size : Int) := by omega
      have l0 : (0 : Int) ≤ (k : Int) := by omega
      have ek := HAT.out k
      obtain ⟨c, hc⟩ : ∃ c, c = bat s k := ⟨_, rfl⟩
      rw [← hc] at ek
      have HC := Lib.hid hc
      clear hc
      have hbad : chrB c k = false → V = false := fun h => by rw [HV.out]; exact validS_bad (Or.inr (Or.inr ⟨k, hlt, by rw [← HC.out]; exact h⟩))
      have hnext : chrB c k = true → Hid (∀ j, j < k + 1 → chrB (bat s j) j = true) := fun h j hj => by
        by_cases e : j < k
        · exact hgo.out j e
        · obtain rfl : j = k := by omega
          rw [← HC.out]; exact h
      have hcase : (chrB c k = true ∧ (((97 : Int) ≤ c ∧ (c : Int) ≤ 122) ∨ (¬ ((97 : Int) ≤ c ∧ (c : Int) ≤ 122) ∧ ¬ (k : Int) = 0 ∧ (((48 : Int) ≤ c ∧ (c : Int) ≤ 57) ∨ (c : Int) = 95)))) ∨
          (chrB c k = false ∧ (¬ ((97 : Int) ≤ c ∧ (c : Int) ≤ 122)) ∧ ((k : Int) = 0 ∨ (¬ (k : Int) = 0 ∧ ¬ ((48 : Int) ≤ c ∧ (c : Int) ≤ 57) ∧ ¬ (c : Int) = 95))) := by
        by_cases hl : 97 ≤ c ∧ c ≤ 122
        · exact Or.inl ⟨by simp [chrB, letB, hl.1, hl.2], Or.inl (by omega)⟩
        · have hlf : letB c = false := by
            unfold letB
            rw [Bool.and_eq_false_iff, decide_eq_false_iff_not, decide_eq_false_iff_not]; omega
          by_cases hk0 : k = 0
          · exact Or.inr ⟨by rw [hk0]; simp [chrB, hlf], by omega, Or.inl (by omega)⟩
          · by_cases hd : (48 ≤ c ∧ c ≤ 57) ∨ c = 95
            · refine Or.inl ⟨?_, Or.inr ⟨by omega, by omega, by omega⟩⟩
              rcases hd with hd | hd
              · simp [chrB, hk0, digB, hd.1, hd.2]
              · simp [chrB, hk0, hd]
            · refine Or.inr ⟨?_, by omega, Or.inr ⟨by omega, by omega, by omega⟩⟩
              have hdf : digB c = false := by
                unfold digB
                rw [Bool.and_eq_false_iff, decide_eq_false_iff_not, decide_eq_false_iff_not]; omega
              have h95 : ¬ c = 95 := by omega
              simp [chrB, hlf, hdf, h95]
      have HBAD := Lib.hid hbad; have HNX := Lib.hid hnext
      clear hbad hnext hgo
      rcases hcase with ⟨hch, hcs⟩ | ⟨hch, hnl, hcs⟩
      · have hn := HNX.out hch
        clear hch
        have hd : ((97 : Int) ≤ c ∧ (c : Int) ≤ 122) ∨ (¬ (97 : Int) ≤ c ∧ ¬ k = 0 ∧ (48 : Int) ≤ c ∧ (c : Int) ≤ 57) ∨ (¬ (97 : Int) ≤ c ∧ ¬ k = 0 ∧ (48 : Int) ≤ c ∧ ¬ (c : Int) ≤ 57 ∧ (c : Int) = 95) := by omega
        clear hcs
        rcases hd with ⟨d1, d2⟩ | ⟨d1, d2, d3, d4⟩ | ⟨d1, d2, d3, d4, d5⟩
        all_goals
          go_wp2_with fail
          go_round
          case rel => exact ⟨k + 1, by omega, by go_num, hn⟩
          case measure => simp [intOf]; omega
      · have hv := HBAD.out hch
        subst hv
        clear hch
        have hd : (¬ (97 : Int) ≤ c ∧ k = 0 ∧ ¬ (48 : Int) ≤ c ∧ ¬ (c : Int) = 95) ∨ (¬ (97 : Int) ≤ c ∧ k = 0 ∧ (48 : Int) ≤ c ∧ (c : Int) ≤ 57) ∨ (¬ (97 : Int) ≤ c ∧ k = 0 ∧ (48 : Int) ≤ c ∧ ¬ (c : Int) ≤ 57 ∧ (c : Int) = 95) ∨ (¬ (97 : Int) ≤ c ∧ k = 0 ∧ (48 : Int) ≤ c ∧ ¬ (c : Int) ≤ 57 ∧ ¬ (c : Int) = 95) ∨
            ((97 : Int) ≤ c ∧ ¬ (c : Int) ≤ 122 ∧ k = 0 ∧ (48 : Int) ≤ c ∧ ¬ (c : Int) ≤ 57 ∧ ¬ (c : Int) = 95) ∨
            (¬ (97 : Int) ≤ c ∧ ¬ k = 0 ∧ ¬ (48 : Int) ≤ c ∧ ¬ (c : Int) = 95) ∨ (¬ (97 : Int) ≤ c ∧ ¬ k = 0 ∧ (48 : Int) ≤ c ∧ ¬ (c : Int) ≤ 57 ∧ ¬ (c : Int) = 95) ∨ ((97 : Int) ≤ c ∧ ¬ (c : Int) ≤ 122 ∧ ¬ k = 0 ∧ (48 : Int) ≤ c ∧ ¬ (c : Int) ≤ 57 ∧ ¬ (c : Int) = 95) := by omega
        clear hcs hnl
        rcases hd with ⟨d1, rfl, d3, d4⟩ | ⟨d1, rfl, d3, d4⟩ | ⟨d1, rfl, d3, d4, d5⟩ | ⟨d1, rfl, d3, d4, d5⟩ | ⟨d1, d2, rfl, d4, d5, d6⟩ | ⟨d1, d2, d3, d4⟩ | ⟨d1, d2, d3, d4, d5⟩ | ⟨d1, d2, d3, d4, d5, d6⟩
        all_goals
          go_wp2_with fail
          all_goals first
            | (go_ret; exact ⟨rfl, Kept.refl _ _⟩)
            | (exfalso; rename_i hx; have h2 := hx.2; simp at h2; omega)
    · obtain rfl : k = s.size := by omega
      have hv : V = !(memS s kwdL) := by rw [HV.out]; exact validS_good HS0.out hsz hgo.out
      have hm := memS_iff s kwdL
      have HV2 := Lib.hid hv; have HM := Lib.hid hm
      clear hv hgo hm
      go_wp2_with fail
      refine (rkeywords_any w).mono ?_
      rintro e w1 ⟨rfl, hs1, hk1⟩
      have HS1 := Lib.hid hs1; have HK1 := Lib.hid hk1
      clear hs1 hk1
      go_wp2_with fail
      go_loop [60] (fun iv => ∃ k : Nat, k ≤ 20 ∧ iv = .int .i64 k ∧ Hid (∀ j, j < k → kwdL.getD j ⟨#[]⟩ ≠ s)) (fun iv => 20 - (intOf iv).toNat)
      case atStart => exact ⟨0, by omega, rfl, fun j hj => by omega⟩
      case round =>
        obtain ⟨k, hk, rfl, hno⟩ := hrel
        have hkl : kwdL.length = 20 := rfl
        by_cases hlt : k < 20
        · have l1 : (k : Int) < 20 := by omega
          have l0 : (0 : Int) ≤ (k : Int) := by omega
          obtain ⟨g, off, hgo, _, hcell⟩ := HS1.out.at (k := k) (by rw [hkl]; exact hlt)
          cases hgo
          obtain ⟨x, hx⟩ : ∃ x, x = kwdL.getD k ⟨#[]⟩ := ⟨_, rfl⟩
          rw [← hx, Nat.zero_add] at hcell
          have HX := Lib.hid hx
          clear hx
          by_cases he : x = s
          · have hb : (x.toList == s.toList) = true := by rw [str_eq]; simp [he]
            have hm : memS s kwdL = true := HM.out.2 (by
              rw [← he, HX.out]
              have hk2 : k < kwdL.length := by rw [hkl]; exact hlt
              simp [List.getD, hk2])
            have hvf : V = false := by rw [HV2.out, hm]; rfl
            clear hm he hkl
            subst hvf
            go_wp2_with fail
            go_ret
            exact ⟨rfl, HK1.out⟩
          · have hb : (x.toList == s.toList) = false := by rw [str_eq]; simp [he]
            have hno2 : Hid (∀ j, j < k + 1 → kwdL.getD j ⟨#[]⟩ ≠ s) := fun j hj => by
              by_cases e : j < k
              · exact hno.out j e
              · obtain rfl : j = k := by omega
                rw [← HX.out]; exact he
            clear he hkl
            go_wp2_with fail
            go_round
            case rel => exact ⟨k + 1, by omega, by go_num, hno2⟩
            case measure => simp [intOf]; omega
        · obtain rfl : k = 20 := by omega
          have hm : memS s kwdL = false := by
            cases hmm : memS s kwdL with
            | false => rfl
            | true =>
              obtain ⟨i, hi, e⟩ := List.getElem_of_mem (HM.out.1 hmm)
              exact absurd (by simp [List.getD, hi, e]) (hno.out i (by rw [← hkl]; exact hi))
          have hvt : V = true := by rw [HV2.out, hm]; rfl
          clear hm hkl
          subst hvt
          go_wp2_with fail
          go_ret
          exact ⟨rfl, HK1.out⟩

/-- The texts that numbers stand for. -/
def wordL : List ByteArray := [⟨#[99, 108, 101, 114, 107]⟩, ⟨#[97, 117, 100, 105, 116, 111, 114]⟩, ⟨#[116, 101, 108, 108, 101, 114]⟩, ⟨#[104, 114]⟩, ⟨#[97]⟩, ⟨#[98]⟩, ⟨#[99, 50]⟩, ⟨#[120, 95, 49]⟩, ⟨#[99, 104, 105, 101, 102]⟩, ⟨#[110, 117, 114, 115, 101]⟩, ⟨#[97, 98, 99, 100, 101, 102, 103, 104, 105, 106, 107, 108]⟩, ⟨#[97, 98, 99, 100, 101, 102, 103, 104, 105, 106, 107, 108, 109]⟩, ⟨#[]⟩, ⟨#[65]⟩, ⟨#[50, 110, 100]⟩, ⟨#[95, 120]⟩, ⟨#[97, 45, 98]⟩, ⟨#[98, 121]⟩, ⟨#[117, 115, 101, 114, 115]⟩, ⟨#[97, 110, 100]⟩]
theorem wordL_short : ∀ x ∈ wordL, x.size ≤ 13 := by decide +kernel

end Go.Proofs.YtcooacjpblhblaaDoor
/-
  The reference of permissions: Within, Check, Covers.
-/
namespace Go.Proofs.YtcooacjpblhblaaDoor
open Go.RowKit
set_option linter.unusedSimpArgs false
set_option linter.unusedVariables false

theorem rsplit_names {w w' : World} {s : ByteArray} {v : Value} {l : List ByteArray} (h : RSplit w w' s v) (hn : namesS s = some l) : Strs w' v l := by
  obtain ⟨xs, h1, _, h2⟩ := h.row
  rw [h2 l hn] at h1
  exact h1
theorem rsplit_form {w w' : World} {s : ByteArray} {v : Value} (h : RSplit w w' s v) : ∃ a n c, v = .slice a n c := by
  obtain ⟨xs, h1, _, h2⟩ := h.row
  obtain ⟨a, c, rfl, _⟩ := h1.form
  exact ⟨a, _, c, rfl⟩

theorem prefix_at {a b : List ByteArray} (hl : b.length ≤ a.length) : b <+: a ↔ ∀ i, i < b.length → b.getD i ⟨#[]⟩ = a.getD i ⟨#[]⟩ := by
  rw [List.prefix_iff_eq_take]
  constructor
  · intro h i hi
    have : b[i]? = (a.take b.length)[i]? := by rw [← h]
    rw [List.getElem?_take_of_lt hi] at this
    rw [List.getD_eq_getElem?_getD, List.getD_eq_getElem?_getD, this]
  · intro h
    apply List.ext_getElem?
    intro i
    by_cases hi : i < b.length
    · have := h i hi
      rw [List.getElem?_take_of_lt hi, List.getElem?_eq_getElem hi, List.getElem?_eq_getElem (by omega)]
      rw [List.getD_eq_getElem?_getD, List.getD_eq_getElem?_getD, List.getElem?_eq_getElem hi, List.getElem?_eq_getElem (by omega)] at this
      exact congrArg some this
    · rw [List.getElem?_eq_none (by omega), List.getElem?_eq_none (by rw [List.length_take]; omega)]

set_option maxRecDepth 100000 in
set_option maxHeartbeats 3200000 in
theorem rwithin_any (q p : ByteArray) (hq : q.size ≤ 100000) (hp : p.size ≤ 100000) (w : World) :
    Calls Tryd.prog 32 #[.string q, .string p] w fun e w' => e = .returned (.bool (withinS p q)) ∧ Kept (fun _ => False) w w' := by
  have HQ := Lib.hid (fun W => psplit_any q hq W)
  have HP := Lib.hid (fun W => psplit_any p hp W)
  obtain ⟨V, hV⟩ : ∃ V, V = withinS p q := ⟨_, rfl⟩
  rw [← hV]
  have HV := Lib.hid hV
  clear hV hq hp
  cases hnq : namesS q with
  | none =>
    rw [hnq] at HQ
    have hv : V = false := by
      rw [HV.out, Bool.eq_false_iff]
      intro h
      obtain ⟨_, b, _, h2, _⟩ := (within_iff _ _).1 h
      rw [hnq] at h2; cases h2
    subst hv
    clear HV hnq
    obtain ⟨bp, hbp⟩ : ∃ bp, bp = (namesS p).isSome := ⟨_, rfl⟩
    rw [← hbp] at HP
    clear hbp
    go_enter Tryd.func32, Tryd.ntmps32
    go_wp2_with fail
    refine (HQ.out _).mono ?_
    rintro e w2 ⟨v2, rfl, h2⟩
    have K2 := Lib.hid h2.kept; clear h2
    go_wp2_with fail
    refine (HP.out _).mono ?_
    rintro e w3 ⟨v3, rfl, h3⟩
    have K3 := Lib.hid (K2.out.then h3.kept); clear h3
    go_wp2_with fail
    go_ret
    exact ⟨rfl, K3.out⟩
  | some b =>
    rw [hnq] at HQ
    cases hnp : namesS p with
    | none =>
      rw [hnp] at HP
      have hv : V = false := by
        rw [HV.out, Bool.eq_false_iff]
        intro h
        obtain ⟨a, _, h1, _, _⟩ := (within_iff _ _).1 h
        rw [hnp] at h1; cases h1
      subst hv
      clear HV hnp
      go_enter Tryd.func32, Tryd.ntmps32
      go_wp2_with fail
      refine (HQ.out _).mono ?_
      rintro e w2 ⟨v2, rfl, h2⟩
      have K2 := Lib.hid h2.kept; clear h2
      go_wp2_with fail
      refine (HP.out _).mono ?_
      rintro e w3 ⟨v3, rfl, h3⟩
      have K3 := Lib.hid (K2.out.then h3.kept); clear h3
      go_wp2_with fail
      go_ret
      exact ⟨rfl, K3.out⟩
    | some a =>
      rw [hnp] at HP
      have hla := (pathS_names hnp).2.2
      have hlb := (pathS_names hnq).2.2
      have hvi : V = true ↔ b <+: a := by
        rw [HV.out, within_iff]
        exact ⟨fun ⟨a', b', h1, h2, h3⟩ => by rw [hnp] at h1; rw [hnq] at h2; cases h1; cases h2; exact h3, fun h => ⟨a, b, hnp, hnq, h⟩⟩
      have HVI := Lib.hid hvi
      have HNP := Lib.hid hnp; have HNQ := Lib.hid hnq
      clear hvi HV hnp hnq
      go_enter Tryd.func32, Tryd.ntmps32
      go_wp2_with fail
      refine (HQ.out _).mono ?_
      rintro e w2 ⟨v2, rfl, h2⟩
      have s2 := rsplit_names h2 HNQ.out
      have K2 := Lib.hid h2.kept; clear h2
      obtain ⟨qa, qc, rfl, hqc, _⟩ := s2.form
      have S2 := Lib.hid s2; clear s2
      go_wp2_with fail
      refine (HP.out _).mono ?_
      rintro e w3 ⟨v3, rfl, h3⟩
      have s3 := rsplit_names h3 HNP.out
      have S2b := Lib.hid (S2.out.kept h3.kept (fun _ _ h => h))
      have K3 := Lib.hid (K2.out.then h3.kept); clear h3
      obtain ⟨pa, pc, rfl, hpc, _⟩ := s3.form
      have S3 := Lib.hid s3; clear s3 S2 K2 HQ HP
      obtain ⟨n, hn⟩ : ∃ n, n = b.length := ⟨_, rfl⟩
      obtain ⟨m, hm⟩ : ∃ m, m = a.length := ⟨_, rfl⟩
      rw [← hn] at S2b hlb hqc ⊢
      rw [← hm] at S3 hla hpc ⊢
      have HN := Lib.hid hn; have HM := Lib.hid hm
      clear hn hm
      by_cases hle : n ≤ m
      · have hgt : ¬ (m : Int) < (n : Int) := by omega
        have HPX := Lib.hid (prefix_at (a := a) (b := b) (by have := HN.out; have := HM.out; omega))
        go_wp2_with fail
        go_loopw [9, 35] (fun _ iv wr => ∃ k : Nat, k ≤ n ∧ iv = .int .i64 (k : Int) ∧ Hid (∀ i, i < k → b.getD i ⟨#[]⟩ = a.getD i ⟨#[]⟩) ∧ Hid (Kept (fun _ => False) w3 wr)) (fun _ iv _ => n - (intOf iv).toNat)
        case atStart => exact ⟨0, Nat.zero_le _, rfl, Lib.hid (fun i hi => absurd hi (by omega)), Lib.hid (Kept.refl _ _)⟩
        case round =>
          obtain ⟨k, hk, rfl, hlo, hkr⟩ := hrel
          by_cases hlt : k < n
          · have l1 : (k : Int) < (n : Int) := by omega
            have l0 : (0 : Int) ≤ (k : Int) := by omega
            have l2 : (k : Int) < (m : Int) := by omega
            obtain ⟨g, off, rfl, _, c0⟩ := (S2b.out.kept hkr.out (fun _ _ h => h)).at (k := k) (by have := HN.out; omega)
            obtain ⟨g', off', rfl, _, c1⟩ := (S3.out.kept hkr.out (fun _ _ h => h)).at (k := k) (by have := HM.out; omega)
            obtain ⟨x, hx⟩ : ∃ x, x = b.getD k ⟨#[]⟩ := ⟨_, rfl⟩
            obtain ⟨y, hy⟩ : ∃ y, y = a.getD k ⟨#[]⟩ := ⟨_, rfl⟩
            rw [← hx] at c0
            rw [← hy] at c1
            have e1 : (x.toList == y.toList) = decide (x = y) := str_eq x y
            have HX := Lib.hid hx; have HY := Lib.hid hy
            clear hx hy
            by_cases hxy : x = y
            · have hnx : Hid (∀ i, i < k + 1 → b.getD i ⟨#[]⟩ = a.getD i ⟨#[]⟩) := Lib.hid fun i hi => by
                rcases Nat.lt_or_ge i k with h | h
                · exact hlo.out i h
                · obtain rfl : i = k := by omega
                  rw [← HX.out, ← HY.out]; exact hxy
              subst hxy
              have e4 : (x.toList != x.toList) = false := by simp
              clear e1 hlo
              go_wp2_with fail
              go_quiet (fail)
              go_wp2_with fail
              go_roundw
              case rel => exact ⟨k + 1, by omega, by go_num, hnx, Lib.hid (hkr.out.drewN _)⟩
              case measure => simp [intOf]; omega
            · have hv : V = false := by
                rw [Bool.eq_false_iff]
                intro h
                have := (HPX.out.1 (HVI.out.1 h)) k (by have := HN.out; omega)
                rw [← HX.out, ← HY.out] at this
                exact hxy this
              have e2 : (x.toList == y.toList) = false := by rw [e1]; simp [hxy]
              have e3 : (x.toList != y.toList) = true := by rw [bne, e2]; rfl
              have e4 : ¬ x.toList = y.toList := by simpa using e2
              subst hv
              clear e1 hlo hxy
              go_wp2_with fail
              go_quiet (fail)
              go_wp2_with fail
              go_ret
              exact ⟨rfl, (K3.out.then hkr.out).drewN _⟩
          · obtain rfl : k = n := by omega
            have hv : V = true := HVI.out.2 (HPX.out.2 fun i hi => hlo.out i (by have := HN.out; omega))
            subst hv
            clear hlo
            go_wp2_with fail
            go_ret
            exact ⟨rfl, K3.out.then hkr.out⟩
      · have hgt : (m : Int) < (n : Int) := by omega
        have hv : V = false := by
          rw [Bool.eq_false_iff]
          intro h
          have := (HVI.out.1 h).length_le
          have := HN.out; have := HM.out
          omega
        subst hv
        go_wp2_with fail
        go_ret
        exact ⟨rfl, K3.out⟩

theorem chkP_split (x : Per) : (validS x.a = false ∧ chkP x = 9) ∨ (validS x.a = true ∧ namesS x.p = none ∧ chkP x = 6) ∨
    (validS x.a = true ∧ ∃ l, namesS x.p = some l ∧ l.length ≤ 8 ∧ ((l.length = 8 ∧ x.d = true ∧ chkP x = 6) ∨ (l.length = 8 ∧ x.d = false ∧ chkP x = 0) ∨ (l.length ≠ 8 ∧ chkP x = 0))) := by
  unfold chkP okP dpS
  cases hv : validS x.a with
  | false => exact Or.inl ⟨rfl, rfl⟩
  | true =>
    right
    cases hn : namesS x.p with
    | none => exact Or.inl ⟨rfl, rfl, rfl⟩
    | some l =>
      right
      refine ⟨rfl, l, rfl, (pathS_names hn).2.2, ?_⟩
      by_cases h8 : l.length = 8
      · cases hd : x.d with
        | false => exact Or.inr (Or.inl ⟨h8, rfl, by simp⟩)
        | true => exact Or.inl ⟨h8, rfl, by simp [h8]⟩
      · exact Or.inr (Or.inr ⟨h8, by simp [h8]⟩)

set_option maxRecDepth 100000 in
set_option maxHeartbeats 3200000 in
theorem rcheck_any (x : Per) (hs : x.p.size ≤ 100000) (w : World) :
    Calls Tryd.prog 12 #[perV x] w fun e w' => e = .returned (.int .i64 (chkP x)) ∧ Kept (fun _ => False) w w' := by
  have HC := Lib.hid (chkP_split x)
  have HV := Lib.hid (fun W => rvalid_any x.a W)
  have HD := Lib.hid (fun W => psplit_any x.p hs W)
  obtain ⟨a, p, d⟩ := x
  unfold perV
  have HB := Lib.hid (Bx.new w a p d 28)
  have HK := Lib.hid (Kept.alloc (fun _ => False) w (.cells #[.string a, .string p, .bool d] 28))
  simp only at HC HV HD
  generalize chkP ⟨a, p, d⟩ = C at *
  generalize validS a = V at *
  clear hs
  go_enter Tryd.func12, Tryd.ntmps12
  go_wp2_with fail
  refine (HV.out _).mono ?_
  generalize w.alloc (.cells #[.string a, .string p, .bool d] 28) = W1 at *
  generalize w.heap.size = Q at *
  rintro e w2 ⟨rfl, k2⟩
  obtain ⟨c0, c1, c2⟩ := HB.out.stay k2
  have HB2 := Lib.hid (HB.out.stay k2)
  have HK2 := Lib.hid (HK.out.then k2)
  clear HB HK k2 HV
  have hc := HC.out
  clear HC
  rcases hc with ⟨rfl, rfl⟩ | ⟨rfl, hn, rfl⟩ | ⟨rfl, l, hn, hl8, hc⟩
  · go_wp2_with fail
    go_ret
    exact ⟨rfl, HK2.out⟩
  · rw [hn] at HD
    clear hn
    go_wp2_with fail
    refine (HD.out _).mono ?_
    rintro e w3 ⟨v3, rfl, h3⟩
    obtain ⟨c0, c1, c2⟩ := HB2.out.stay h3.kept
    have HK3 := Lib.hid (HK2.out.then h3.kept)
    clear h3
    go_wp2_with fail
    go_ret
    exact ⟨rfl, HK3.out⟩
  · rw [hn] at HD
    have HN := Lib.hid hn
    have HC := Lib.hid hc
    clear hn hc
    go_wp2_with fail
    refine (HD.out _).mono ?_
    rintro e w3 ⟨v3, rfl, h3⟩
    obtain ⟨c0, c1, c2⟩ := HB2.out.stay h3.kept
    have HK3 := Lib.hid (HK2.out.then h3.kept)
    obtain ⟨va, vc, rfl, _, _⟩ := (rsplit_names h3 HN.out).form
    clear h3
    have hc := HC.out
    clear HC HN HD HK2 HB2
    generalize l.length = n at hc hl8 ⊢
    rcases hc with ⟨rfl, rfl, rfl⟩ | ⟨rfl, rfl, rfl⟩ | ⟨h8, rfl⟩
    · go_wp2_with fail
      go_ret
      exact ⟨rfl, HK3.out⟩
    · go_wp2_with fail
      go_ret
      exact ⟨rfl, HK3.out⟩
    · have h8i : ¬ (n : Int) = 8 := by omega
      have h8b : ((n : Int) == 8) = false := beq_eq_false_iff_ne.2 h8i
      cases d <;>
      · go_wp2_with fail
        go_ret
        exact ⟨rfl, HK3.out⟩

theorem covP_eq (x : Per) (a s : ByteArray) : covP x a s = (okP x && (namesS s).isSome && decide (a = x.a) && (decide (s = x.p) || (x.d && withinS s x.p))) := by
  unfold covP
  rw [Bool.eq_iff_iff, impP_iff, okP_req]
  simp only [Bool.and_eq_true, Bool.or_eq_true, decide_eq_true_eq]
  constructor
  · rintro ⟨h1, ⟨h2, h3⟩, h4⟩
    rcases h4 with e | ⟨h5, h6, h7⟩
    · have e1 : x.a = a := by rw [e]
      have e2 : x.p = s := by rw [e]
      exact ⟨⟨⟨h1, h3⟩, e1.symm⟩, Or.inl e2.symm⟩
    · exact ⟨⟨⟨h1, h3⟩, h6.symm⟩, Or.inr ⟨h5, h7⟩⟩
  · rintro ⟨⟨⟨h1, h3⟩, h6⟩, h4⟩
    refine ⟨h1, ⟨by rw [h6]; exact okP_name h1, h3⟩, ?_⟩
    rcases h4 with e | ⟨h5, h7⟩
    · cases hd : x.d with
      | false => exact Or.inl (per_ext h6.symm e.symm hd)
      | true => exact Or.inr ⟨rfl, h6.symm, by rw [e]; exact within_refl (by rw [← e]; exact h3)⟩
    · exact Or.inr ⟨h5, h6.symm, h7⟩

set_option maxRecDepth 100000 in
set_option maxHeartbeats 3200000 in
theorem rcov_any (x : Per) (b s : ByteArray) (hx : x.p.size ≤ 100000) (hs : s.size ≤ 100000) (w : World) :
    Calls Tryd.prog 16 #[perV x, .string b, .string s] w fun e w' => e = .returned (.bool (covP x b s)) ∧ Kept (fun _ => False) w w' := by
  have HS := Lib.hid (fun W => psplit_any s hs W)
  have HC := Lib.hid (fun W => rcheck_any x hx W)
  have HW := Lib.hid (fun W => rwithin_any x.p s hx hs W)
  have hz := chkP_zero x
  obtain ⟨V, hV⟩ : ∃ V, V = covP x b s := ⟨_, rfl⟩
  rw [← hV]
  rw [covP_eq] at hV
  obtain ⟨a, p, d⟩ := x
  unfold perV at *
  simp only at hV HW
  have HB := Lib.hid (Bx.new w a p d 28)
  have HK := Lib.hid (Kept.alloc (fun _ => False) w (.cells #[.string a, .string p, .bool d] 28))
  have e1 : (b.toList == a.toList) = decide (b = a) := str_eq b a
  have e2 : (s.toList == p.toList) = decide (s = p) := str_eq s p
  have n1 : (b.toList != a.toList) = !decide (b = a) := by rw [bne, e1]
  generalize decide (b = a) = E1 at *
  generalize decide (s = p) = E2 at *
  generalize (namesS s).isSome = NS at *
  generalize withinS s p = WI at *
  have hcz : (chkP ⟨a, p, d⟩ != 0) = !okP ⟨a, p, d⟩ := by
    rw [bne]
    congr 1
    rw [Bool.eq_iff_iff, ← hz]; simp
  have hce : (chkP ⟨a, p, d⟩ == 0) = okP ⟨a, p, d⟩ := by rw [Bool.eq_iff_iff, ← hz]; simp
  generalize chkP ⟨a, p, d⟩ = C at *
  generalize okP ⟨a, p, d⟩ = O at *
  have HV := Lib.hid hV
  clear hV hz hx hs
  go_enter Tryd.func16, Tryd.ntmps16
  go_wp2_with fail
  refine (HS.out _).mono ?_
  generalize w.alloc (.cells #[.string a, .string p, .bool d] 28) = W1 at *
  generalize w.heap.size = Q at *
  rintro e w2 ⟨v2, rfl, h2⟩
  obtain ⟨c0, c1, c2⟩ := HB.out.stay h2.kept
  have HB2 := Lib.hid (HB.out.stay h2.kept)
  have HK2 := Lib.hid (HK.out.then h2.kept)
  clear h2 HB HK HS
  go_wp2_with fail
  refine (HC.out _).mono ?_
  rintro e w3 ⟨rfl, k3⟩
  obtain ⟨c0, c1, c2⟩ := HB2.out.stay k3
  have HK3 := Lib.hid (HK2.out.then k3)
  clear k3 HB2 HC HK2
  cases O with
  | false =>
    have hv : V = false := by rw [HV.out]; rfl
    subst hv
    clear HV
    go_wp2_with fail
    all_goals (go_ret; exact ⟨rfl, HK3.out⟩)
  | true =>
    cases NS with
    | false =>
      have hv : V = false := by rw [HV.out]; rfl
      subst hv
      clear HV
      go_wp2_with fail
      all_goals (go_ret; exact ⟨rfl, HK3.out⟩)
    | true =>
      cases E1 with
      | false =>
        have hv : V = false := by rw [HV.out]; rfl
        subst hv
        clear HV
        go_wp2_with fail
        all_goals (go_ret; exact ⟨rfl, HK3.out⟩)
      | true =>
        cases E2 with
        | true =>
          have hv : V = true := by rw [HV.out]; rfl
          subst hv
          clear HV
          go_wp2_with fail
          all_goals (go_ret; exact ⟨rfl, HK3.out⟩)
        | false =>
          cases d with
          | false =>
            have hv : V = false := by rw [HV.out]; rfl
            subst hv
            clear HV
            go_wp2_with fail
            all_goals (go_ret; exact ⟨rfl, HK3.out⟩)
          | true =>
            have hv : V = WI := by rw [HV.out]; simp
            subst hv
            clear HV
            go_wp2_with fail
            refine (HW.out _).mono ?_
            rintro e w4 ⟨rfl, k4⟩
            have HK4 := Lib.hid (HK3.out.then k4)
            clear k4
            go_wp2_with fail
            go_ret
            exact ⟨rfl, HK4.out⟩
end Go.Proofs.YtcooacjpblhblaaDoor
/-
  PermissionCovers returns true.
-/
namespace Go.Proofs.YtcooacjpblhblaaDoor
open Go.RowKit
set_option linter.unusedSimpArgs false
set_option linter.unusedVariables false

theorem covP_self (x : Per) : covP x x.a x.p = okP x := by
  rw [covP_eq]
  cases h : okP x with
  | false => rfl
  | true => simp [okP_path h]

set_option maxRecDepth 100000 in
set_option maxHeartbeats 3200000 in
theorem covers11_any (v0 v1 : Value) (r0 r1 : RawP) (B : Nat) (w : World) (h0 : RawIn w v0 r0 B) (h1 : RawIn w v1 r1 B) :
    Calls Tryd.prog 4 #[v0, v1] w fun e w' => e = .returned (.bool true) ∧ Kept (fun _ => False) w w' := by
  have HM0 := Lib.hid (fun W (hk : Kept (fun _ => False) w W) => make11_any v0 r0 B W (h0.kept hk (fun _ _ h => h)))
  have hsz := per_size r0
  obtain ⟨nv0, rfl, _⟩ := h0
  obtain ⟨nv1, rfl, hl1, hn1, hx1, hm1⟩ := h1
  obtain ⟨n0, xs0, d0⟩ := r0
  obtain ⟨n1, xs1, d1⟩ := r1
  simp only at hl1 hn1 hx1 hm1 HM0 ⊢
  have HA := Lib.hid (fun W => raction_any n1 W hn1)
  have HP := Lib.hid (fun W (hk : Kept (fun _ => False) w W) => rpath_any nv1 xs1 B W (hl1.kept hk (fun _ _ h => h)) hx1 hm1)
  have hps := rawS_size xs1
  generalize actS n1 = act at *
  generalize rawS xs1 = pl at *
  generalize RawP.per ⟨n0, xs0, d0⟩ = x at *
  have HC1 := Lib.hid (fun W => pcov_any x act pl (by omega) (by omega) W)
  have HC2 := Lib.hid (fun W => pcov_any x x.a pl (by omega) (by omega) W)
  have HC3 := Lib.hid (fun W => pcov_any x x.a x.p (by omega) (by omega) W)
  have HR1 := Lib.hid (fun W => rcov_any x act pl (by omega) (by omega) W)
  have HR2 := Lib.hid (fun W => rcov_any x x.a pl (by omega) (by omega) W)
  have HCK := Lib.hid (fun W => rcheck_any x (by omega) W)
  rw [covP_self] at HC3
  have hce : (chkP x == 0) = okP x := by rw [Bool.eq_iff_iff, ← chkP_zero x]; simp
  generalize covP x act pl = V1 at *
  generalize covP x x.a pl = V2 at *
  generalize chkP x = C at *
  generalize okP x = O at *
  obtain ⟨a, p, d⟩ := x
  unfold perV at *
  simp only at HM0 HC1 HC2 HC3 HR1 HR2 HCK
  have HZ0 := Lib.hid (Zb.new w 24 (.int .u8 n0) nv0 (.bool d0))
  have HZ0b := Lib.hid (HZ0.out.kept (Kept.alloc (fun _ => False) _ (.cells #[.int .u8 n1, nv1, .bool d1] 24)) (fun h => h))
  have HZ1 := Lib.hid (Zb.new (w.alloc (.cells #[.int .u8 n0, nv0, .bool d0] 24)) 24 (.int .u8 n1) nv1 (.bool d1))
  have e1 : (w.alloc (.cells #[.int .u8 n0, nv0, .bool d0] 24)).heap.size = w.heap.size + 1 := by simp
  rw [e1] at HZ1
  have HK := Lib.hid ((Kept.alloc (fun _ => False) w (.cells #[.int .u8 n0, nv0, .bool d0] 24)).then (Kept.alloc (fun _ => False) _ (.cells #[.int .u8 n1, nv1, .bool d1] 24)))
  clear hsz hps hn1 hx1 hm1 hl1 HZ0 e1
  go_enter Tryd.func4, Tryd.ntmps4
  go_wp2_with fail
  refine (awake11_any _).mono ?_
  generalize (w.alloc (.cells #[.int .u8 n0, nv0, .bool d0] 24)).alloc (.cells #[.int .u8 n1, nv1, .bool d1] 24) = W1 at *
  rintro e w2 ⟨rfl, k2⟩
  obtain ⟨⟨c0, c1, c2⟩, _⟩ := (HZ0b.out.kept k2 (fun h => h)).cells
  have K2 := Lib.hid (HK.out.then k2)
  have Z1 := Lib.hid (HZ1.out.kept k2 (fun h => h))
  clear k2 HK HZ0b HZ1
  go_wp2_with fail
  refine (HM0.out _ K2.out).mono ?_
  rintro e w3 ⟨rfl, k3⟩
  have K3 := Lib.hid (K2.out.then k3)
  have Z3 := Lib.hid (Z1.out.kept k3 (fun h => h))
  have hlt := World.block_lt_of_cell? _ _ Z3.out.cells.1.1
  have B1 := Lib.hid ((Bx.new w3 a p d 27).stay (Kept.alloc (fun _ => False) _ (.cells #[.string a, .string p, .bool d] 28)))
  have B2 := Lib.hid (Bx.new (w3.alloc (.cells #[.string a, .string p, .bool d] 27)) a p d 28)
  have e1 : (w3.alloc (.cells #[.string a, .string p, .bool d] 27)).heap.size = w3.heap.size + 1 := by simp
  rw [e1] at B2
  have KA := (Kept.alloc (fun _ => False) w3 (.cells #[.string a, .string p, .bool d] 27)).then (Kept.alloc (fun _ => False) _ (.cells #[.string a, .string p, .bool d] 28))
  have K4 := Lib.hid (K3.out.then KA)
  have Z4 := Lib.hid (Z3.out.kept KA (fun h => h))
  clear k3 c0 c1 c2 KA e1 K2 Z1 Z3 K3 HM0 hlt
  go_wp2_with fail
  generalize (w3.alloc (.cells #[.string a, .string p, .bool d] 27)).alloc (.cells #[.string a, .string p, .bool d] 28) = W4 at *
  generalize w3.heap.size = P at *
  have HS : Hid (∀ W, Kept (fun _ => False) W4 W → (W.cell? ⟨w.heap.size + 1, 0, none⟩ = some (.int .u8 n1) ∧ W.cell? ⟨w.heap.size + 1, 1, none⟩ = some nv1)) := Lib.hid fun W hk => ⟨(Z4.out.kept hk (fun h => h)).cells.1.1, (Z4.out.kept hk (fun h => h)).cells.1.2.1⟩
  obtain ⟨s0, s1⟩ := HS.out _ (Kept.refl _ _)
  go_region_held3 (fun W => W.cell? ⟨w.heap.size + 1, 0, none⟩ = some (.int .u8 n1) ∧ W.cell? ⟨w.heap.size + 1, 1, none⟩ = some nv1)
    (first | exact HS.out _ KC.out | exact HS.out _ (Kept.refl _ _) | exact HS.out _ (Kept.refl _ _).drew)
    ((first | (go_at_call 13; with_reducible refine (HA.out _).mono ?_; rintro e q1 ⟨rfl, j1⟩; have KC := Lib.hid (Kept.then (show Kept (fun _ => False) W4 _ from (by first | exact Kept.refl _ _ | exact (Kept.refl _ _).drew)) j1); clear j1) | (go_at_call 14; with_reducible refine (HP.out _ (K4.out.then KC.out)).mono ?_; rintro e q1 ⟨rfl, j1⟩; have KD := Lib.hid (KC.out.then j1); clear KC; have KC := KD; clear KD; clear j1)))
  have K5 := Lib.hid (K4.out.then KC.out)
  have HS2 : Hid (∀ W, Kept (fun _ => False) q1 W → (W.cell? ⟨P, 0, none⟩ = some (.string a) ∧ W.cell? ⟨P, 1, none⟩ = some (.string p) ∧ W.cell? ⟨P, 2, none⟩ = some (.bool d)) ∧ (W.cell? ⟨P + 1, 0, none⟩ = some (.string a) ∧ W.cell? ⟨P + 1, 1, none⟩ = some (.string p) ∧ W.cell? ⟨P + 1, 2, none⟩ = some (.bool d))) := Lib.hid fun W hk => by
    have b1 := (B1.out.stay KC.out).stay hk
    have b2 := (B2.out.stay KC.out).stay hk
    exact ⟨⟨b1.c0, b1.c1, b1.c2⟩, b2.c0, b2.c1, b2.c2⟩
  obtain ⟨⟨b0, b1, b2⟩, b3, b4, b5⟩ := HS2.out _ (Kept.refl _ _)
  clear KC HS s0 s1 K4 Z4 B1 B2 HA HP
  go_wp2_with fail
  go_region_held3 (fun W => (W.cell? ⟨P, 0, none⟩ = some (.string a) ∧ W.cell? ⟨P, 1, none⟩ = some (.string p) ∧ W.cell? ⟨P, 2, none⟩ = some (.bool d)) ∧ (W.cell? ⟨P + 1, 0, none⟩ = some (.string a) ∧ W.cell? ⟨P + 1, 1, none⟩ = some (.string p) ∧ W.cell? ⟨P + 1, 2, none⟩ = some (.bool d)))
    (first | exact HS2.out _ KC.out | exact HS2.out _ (Kept.refl _ _) | exact HS2.out _ (Kept.refl _ _).drew)
    ((first | (go_at_call 15; with_reducible refine (HC1.out _).mono ?_; rintro e qq ⟨rfl, j1⟩; have KD := Lib.hid (Kept.then (show Kept (fun _ => False) q1 _ from (by first | exact KC.out | exact Kept.refl _ _ | exact (Kept.refl _ _).drew)) j1); (try clear KC); have KC := KD; clear KD; clear j1) | (go_at_call 16; with_reducible refine (HR1.out _).mono ?_; rintro e qq ⟨rfl, j1⟩; have KD := Lib.hid (Kept.then (show Kept (fun _ => False) q1 _ from (by first | exact KC.out | exact Kept.refl _ _ | exact (Kept.refl _ _).drew)) j1); (try clear KC); have KC := KD; clear KD; clear j1) | (go_at_call 15; with_reducible refine (HC2.out _).mono ?_; rintro e qq ⟨rfl, j1⟩; have KD := Lib.hid (Kept.then (show Kept (fun _ => False) q1 _ from (by first | exact KC.out | exact Kept.refl _ _ | exact (Kept.refl _ _).drew)) j1); (try clear KC); have KC := KD; clear KD; clear j1) | (go_at_call 16; with_reducible refine (HR2.out _).mono ?_; rintro e qq ⟨rfl, j1⟩; have KD := Lib.hid (Kept.then (show Kept (fun _ => False) q1 _ from (by first | exact KC.out | exact Kept.refl _ _ | exact (Kept.refl _ _).drew)) j1); (try clear KC); have KC := KD; clear KD; clear j1) | (go_at_call 15; with_reducible refine (HC3.out _).mono ?_; rintro e qq ⟨rfl, j1⟩; have KD := Lib.hid (Kept.then (show Kept (fun _ => False) q1 _ from (by first | exact KC.out | exact Kept.refl _ _ | exact (Kept.refl _ _).drew)) j1); (try clear KC); have KC := KD; clear KD; clear j1) | (go_at_call 12; with_reducible refine (HCK.out _).mono ?_; rintro e qq ⟨rfl, j1⟩; have KD := Lib.hid (Kept.then (show Kept (fun _ => False) q1 _ from (by first | exact KC.out | exact Kept.refl _ _ | exact (Kept.refl _ _).drew)) j1); (try clear KC); have KC := KD; clear KD; clear j1)))
  have K6 := Lib.hid (K5.out.then KC.out)
  clear KC
  go_wp2_with fail
  go_ret
  exact ⟨rfl, K6.out⟩
end Go.Proofs.YtcooacjpblhblaaDoor
/-
  Raw permissions as they come in.
-/
namespace Go.Proofs.YtcooacjpblhblaaDoor
open Go.Joins Go.ChangeShapes Go.WideShapes Go.ChangeAt Go.RowKit Go.Deep
set_option linter.unusedSimpArgs false
set_option linter.unusedVariables false
set_option linter.constructorNameAsVariable false

theorem u8_natQ (a : Int) (h : (Lit.int .u8 a).wf = true) : ∃ n : Nat, a = (n : Int) ∧ n < 256 := by
  simp [Lit.wf, IntKind.min, IntKind.max, IntKind.signed, IntKind.bits] at h
  exact ⟨a.toNat, by omega, by omega⟩
set_option maxRecDepth 100000 in
theorem raw11_in {H : Type} {enc : TypeId × Value → H} {W : World} {base : Nat} {v : Value} {d : DataW H} {p : List MemPlace} (o : Value.okWide Tryd.prog W .any base 24 v) (h : DataW.Trod enc Tryd.prog W 0 (fun _ => true) true 24 v d p) :
    ∃ r : RawP, RawIn W v r W.heap.size := by
  obtain ⟨v0, v1, v2, y0, y1, y2, n, rfl, _, _, t0, t1, t2⟩ := open_agg3 Tryd.underlying24 (by kernel_rfl) (by kernel_rfl) o h
  obtain ⟨i0, e0, _, w0⟩ := DataW.trod_int Tryd.underlying5 t0
  obtain ⟨b, e2, _⟩ := DataW.trod_bool Tryd.underlying4 t2
  injection e0 with e0; injection e2 with e2
  subst e0 e2
  obtain ⟨n0, rfl, h0⟩ := u8_natQ _ w0
  obtain ⟨xs, hl, hx⟩ := loose_of t1
  exact ⟨⟨n0, xs, b⟩, v1, rfl, hl, h0, hx, hl.le⟩
end Go.Proofs.YtcooacjpblhblaaDoor
