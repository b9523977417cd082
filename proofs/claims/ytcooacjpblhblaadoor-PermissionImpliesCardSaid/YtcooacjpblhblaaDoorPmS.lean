/-
  Permissions: the set of a list (a map), and what it is asked.
-/
import Derived.Test.YtcooacjpblhblaaDoorPmK
import Derived.Test.YtcooacjpblhblaaDoorPmA
namespace Go.Proofs.YtcooacjpblhblaaDoor
open Go.RowKit Go.Maps Go.WideMaps Go.ChangeMaps
set_option linter.unusedSimpArgs false
set_option linter.unusedVariables false

set_option maxRecDepth 100000 in
theorem mk_hintQ (W : World) (c : Int) : (Instr.makeMap 72 (some (.int .i64 c))).run Tryd.prog W = .ok (.map (some W.heap.size)) (W.alloc (.map #[] 0)) := by
  unfold Instr.makeMap
  simp only [Sem.run_bind, run_underlying Tryd.underlying72, Result.andThen_ok]
  rfl
set_option maxRecDepth 100000 in
theorem map_lookQ {w : World} {m n : Nat} {D : DataW Unit} {M : Per → Bool} (h : OwnMQ w m n D) (hM : MapQ D M) (x : Per) (hx : smallQ x) :
    (Instr.lookup 72 (.map (some m)) (perV x) false).run Tryd.prog w = .ok (.bool (M x)) w := by
  obtain ⟨v, ps, hrun, hv⟩ := h.lookup lawQ Tryd.underlying72 (zeroBl w) (pl_bool false) (key_mkQ x hx.1 hx.2)
  rw [(hM x hx).2] at hv
  obtain ⟨y, rfl, hy⟩ := pl_bool_inv hv
  injection hy with h1 h2
  injection h1 with h1
  injection h1 with h1
  rw [hrun, ← h1]
/-- Permissions of a size that can be walked. -/
def bdQ (l : List Per) : Prop := ∀ x ∈ l, x.a.size ≤ 1000000 ∧ x.p.size ≤ 100000
theorem bdQ_small {l : List Per} (h : bdQ l) {x : Per} (hx : x ∈ l) : smallQ x := by
  have := h x hx
  unfold smallQ maxLen
  omega
theorem take_one (l : List Per) (k : Nat) (h : k < l.length) : l.take (k + 1) = l.take k ++ [l.getD k per0] := by
  rw [List.take_add_one, List.getD_eq_getElem?_getD, List.getElem?_eq_getElem h]
  rfl
theorem getD_mem (l : List Per) (k : Nat) (h : k < l.length) : l.getD k per0 ∈ l := by
  rw [List.getD_eq_getElem?_getD, List.getElem?_eq_getElem h]
  exact List.getElem_mem h

/-- The map after k rounds. -/
structure SetInv (w wr : World) (m k : Nat) (l : List Per) : Prop where
  map : ∃ n D, OwnMQ wr m n D ∧ MapQ D (memP (l.take k)) ∧ IsMap D ∧ n ≤ k
  kept : Kept (fun _ => False) w wr
theorem memP_yes {l : List Per} {k : Nat} (hk : k < l.length) (h : okP (l.getD k per0) = true) : memP (l.take (k + 1)) = fun x => decide (x = l.getD k per0) || memP (l.take k) x := by
  funext x
  rw [Bool.eq_iff_iff, Bool.or_eq_true, memP_iff, memP_iff, take_one l k hk, List.mem_append, List.mem_singleton, decide_eq_true_eq]
  constructor
  · rintro ⟨a | a, b⟩
    · exact Or.inr ⟨a, b⟩
    · exact Or.inl a
  · rintro (a | ⟨a, b⟩)
    · exact ⟨Or.inr a, by rw [a]; exact h⟩
    · exact ⟨Or.inl a, b⟩
theorem memP_no {l : List Per} {k : Nat} (hk : k < l.length) (h : okP (l.getD k per0) = false) : memP (l.take (k + 1)) = memP (l.take k) := by
  funext x
  rw [Bool.eq_iff_iff, memP_iff, memP_iff, take_one l k hk, List.mem_append, List.mem_singleton]
  constructor
  · rintro ⟨a | a, b⟩
    · exact ⟨a, b⟩
    · rw [a, h] at b; cases b
  · rintro ⟨a, b⟩; exact ⟨Or.inl a, b⟩

set_option maxRecDepth 100000 in
set_option maxHeartbeats 3200000 in
theorem setOf_any (w : World) (v : Value) (l : List Per) (h : Pers w v l) (hb : bdQ l) (hl : l.length ≤ 100000) :
    Calls Tryd.prog 45 #[v] w fun e w' => ∃ m n D, e = .returned (.map (some m)) ∧ OwnMQ w' m n D ∧ MapQ D (memP l) ∧ n ≤ l.length ∧ w.heap.size ≤ m ∧ Kept (fun _ => False) w w' := by
  obtain ⟨a, c, rfl, h1, h2⟩ := h.form
  have HV := Lib.hid h; have HBD := Lib.hid hb
  obtain ⟨N, hN⟩ : ∃ N, N = l.length := ⟨_, rfl⟩
  rw [← hN] at HV hl h1 ⊢
  have HN := Lib.hid hN
  unfold maxLen at h2
  have hmm := mk_hintQ
  have HI0 : Hid (SetInv w (w.alloc (.map #[] 0)) w.heap.size 0 l) := Lib.hid ⟨⟨0, _, World.ownsMap_made (H := Unit) w Tryd.prog 27 (plainElem Tryd.prog 4), (by
    have : memP (l.take 0) = fun _ => false := by funext x; unfold memP; simp
    rw [this]; exact MapQ.nil), ⟨[], rfl⟩, Nat.le_refl _⟩, Kept.alloc _ _ _⟩
  clear h hb hN
  go_enter Tryd.func45, Tryd.ntmps45
  go_wp2_with fail
  go_loopw [5, 11] (fun _ iv wr => ∃ k : Nat, k ≤ N ∧ iv = .int .i64 (k : Int) ∧ Hid (SetInv w wr w.heap.size k l)) (fun _ iv _ => N - (intOf iv).toNat)
  case atStart => exact ⟨0, Nat.zero_le _, rfl, HI0⟩
  case round =>
    obtain ⟨k, hk, rfl, hI⟩ := hrel
    clear HI0
    by_cases hlt : k < N
    · have l1 : (k : Int) < (N : Int) := by omega
      have l0 : (0 : Int) ≤ (k : Int) := by omega
      have hkl : k < l.length := by have := HN.out; omega
      obtain ⟨g, off, rfl, hg, hc⟩ := (HV.out.kept hI.out.kept (fun _ _ h => h)).at (k := k) hkl
      have hbx := HBD.out _ (getD_mem l k hkl)
      have hyes := fun h => memP_yes (l := l) hkl h
      have hno := fun h => memP_no (l := l) hkl h
      have hsm : smallQ (l.getD k per0) := bdQ_small HBD.out (getD_mem l k hkl)
      generalize hx : l.getD k per0 = x at hc hbx hyes hno hsm
      have HC := Lib.hid (fun W => pok_any x (by omega) W)
      obtain ⟨xa, xp, xd⟩ := x
      unfold perV at HC
      obtain ⟨c0, c1, c2⟩ := hc
      simp only at c0 c1 c2
      have HBX := Lib.hid (Bx.new wr xa xp xd 27)
      have HK1 := Lib.hid (hI.out.kept.then (Kept.alloc (fun _ => False) wr (.cells #[.string xa, .string xp, .bool xd] 27)))
      have hkal := Kept.alloc (fun _ => False) wr (.cells #[.string xa, .string xp, .bool xd] 27)
      have HM := Lib.hid hI.out.map
      have HYES := Lib.hid hyes; have HNO := Lib.hid hno; have HSM := Lib.hid hsm; have HX := Lib.hid hx
      have HKAL := Lib.hid hkal
      obtain ⟨b, hb⟩ : ∃ b, b = okP ⟨xa, xp, xd⟩ := ⟨_, rfl⟩
      rw [← hb] at HC
      have HB := Lib.hid hb
      clear hyes hno hsm hx hbx hkal hb hg
      go_wp2_with fail
      refine (HC.out _).mono ?_
      clear c0 c1 c2
      generalize wr.alloc (.cells #[.string xa, .string xp, .bool xd] 27) = W1 at *
      generalize wr.heap.size = Q at *
      rintro e w2 ⟨rfl, k2⟩
      obtain ⟨c0, c1, c2⟩ := HBX.out.stay k2
      have HK2 := Lib.hid (HK1.out.then k2)
      have HKAL2 := Lib.hid (HKAL.out.then k2)
      clear k2 HC HK1 HBX HKAL
      cases b with
      | false =>
        have hI2 : Hid (SetInv w w2 w.heap.size (k + 1) l) := by
          obtain ⟨n, D, m1, m2, m3, m4⟩ := HM.out
          exact ⟨⟨n, D, ownMQ_kept m1 HKAL2.out (fun h => h), by rw [HNO.out HB.out.symm]; exact m2, m3, by omega⟩, HK2.out⟩
        go_wp2_with fail
        go_roundw
        case rel => exact ⟨k + 1, by omega, by go_num, hI2⟩
        case measure => simp [intOf]; omega
      | true =>
        obtain ⟨n, D, m1, m2, m3, m4⟩ := HM.out
        have m1b := ownMQ_kept m1 HKAL2.out (fun h => h)
        have hput := MapQ.put ⟨xa, xp, xd⟩ HSM.out m2 m3
        rw [← HYES.out HB.out.symm] at hput
        have HPUT := Lib.hid hput; have HM3 := Lib.hid m3
        have hkey := key_mkQ ⟨xa, xp, xd⟩ HSM.out.1 HSM.out.2
        clear m1 m2 m3 hput HM
        go_wp2_with (first
          | (at_mapUpdate; refine wpList_mapUpdate_own _ rfl _ _ _ 72 rfl 27 4 lawQ Tryd.underlying72 _ w.heap.size _ _ rfl m1b (by unfold maxLen; omega) _ _ _ rfl rfl hkey _ [] (pl_bool true) ?_; intro w3 hown3 hg3; go_frame)
          | fail)
        have hI2 : Hid (SetInv w w3 w.heap.size (k + 1) l) :=
          ⟨⟨_, _, hown3, HPUT.out, HM3.out.put _ _, by omega⟩, HK2.out.trans (Kept.ofGrown (S := fun k => k = w.heap.size) hg3 (fun k e => (Option.some.inj e).symm)) (fun _ _ h => h) (fun i hi e => by omega)⟩
        clear hown3 hg3
        go_roundw
        case rel => exact ⟨k + 1, by omega, by go_num, hI2⟩
        case measure => simp [intOf]; omega
    · obtain rfl : k = N := by omega
      go_wp2_with fail
      go_ret
      obtain ⟨n, D, m1, m2, m3, m4⟩ := hI.out.map
      rw [HN.out, List.take_length] at m2
      exact ⟨_, n, D, rfl, m1, m2, m4, Nat.le_refl _, hI.out.kept⟩

set_option maxRecDepth 100000 in
set_option maxHeartbeats 3200000 in
theorem exceeds_any (w : World) (m n : Nat) (D : DataW Unit) (M : Per → Bool) (x : Per) (h : OwnMQ w m n D) (hM : MapQ D M) (hxa : x.a.size ≤ 1000000) (hxp : x.p.size ≤ 100000) :
    Calls Tryd.prog 46 #[.map (some m), perV x] w fun e w' => e = .returned (.bool (askP M x)) ∧ Kept (fun _ => False) w w' := by
  have HA := Lib.hid (fun W => panc_any x.p hxp W)
  have HLK : Hid (∀ W, Kept (fun _ => False) w W → ∀ y : ByteArray, y.size ≤ 1000000 → (Instr.lookup 72 (.map (some m)) (.agg #[.string x.a, .string y, .bool true]) false).run Tryd.prog W = .ok (.bool (M ⟨x.a, y, true⟩)) W) :=
    Lib.hid fun W hk y hy => map_lookQ (ownMQ_kept h hk (fun h => h)) hM ⟨x.a, y, true⟩ ⟨by show x.a.size ≤ maxLen; unfold maxLen; omega, by show y.size ≤ maxLen; unfold maxLen; omega⟩
  have hsmall : ∀ u ∈ ancS x.p, u.size ≤ 1000000 := by
    intro u hu
    unfold ancS at hu
    cases hn : namesS x.p with
    | none => rw [hn] at hu; simp at hu
    | some xs =>
      have : u ∈ ancS x.p := by unfold ancS; exact hu
      obtain ⟨k, _, rfl⟩ := (mem_anc hn).1 this
      have := path_size (nm_take hn k)
      omega
  have HS := Lib.hid hsmall
  obtain ⟨V, hV⟩ : ∃ V, V = askP M x := ⟨_, rfl⟩
  rw [← hV]
  unfold askP at hV
  obtain ⟨a, p, d⟩ := x
  simp only at HA HLK HS hV
  obtain ⟨U, hU⟩ : ∃ U, U = ancS p := ⟨_, rfl⟩
  rw [← hU] at HA HS hV
  obtain ⟨N, hN⟩ : ∃ N, N = U.length := ⟨_, rfl⟩
  have HV := Lib.hid hV; have HN := Lib.hid hN
  have hlk0 := HLK.out
  have HBX := Lib.hid (Bx.new w a p d 27)
  have HK1 := Lib.hid (Kept.alloc (fun _ => False) w (.cells #[.string a, .string p, .bool d] 27))
  have hl1 := HLK.out _ HK1.out p (by simp only at hxp; omega)
  clear hlk0 hsmall hV hU hN hxa hxp h hM
  unfold perV
  simp only
  generalize hmp : M ⟨a, p, true⟩ = MP at hl1
  have HMP := Lib.hid hmp
  clear hmp
  have HL1 := Lib.hid hl1
  clear hl1
  cases d with
  | false =>
    cases MP with
    | true =>
      have hv : V = true := by rw [HV.out, HMP.out]; rfl
      subst hv
      go_enter Tryd.func46, Tryd.ntmps46
      go_wp2_with (first
        | (at_lookup; refine wpList_lookup_run (by rfl) _ _ _ rfl _ _ rfl rfl HL1.out ?_)
        | fail)
      go_ret
      exact ⟨rfl, HK1.out⟩
    | false =>
      have hv : V = U.any fun u => M ⟨a, u, true⟩ := by rw [HV.out, HMP.out]; rfl
      have HV2 := Lib.hid hv
      clear hv HV HMP
      go_enter Tryd.func46, Tryd.ntmps46
      go_wp2_with (first
        | (at_lookup; refine wpList_lookup_run (by rfl) _ _ _ rfl _ _ rfl rfl HL1.out ?_)
        | fail)
      refine (HA.out _).mono ?_
      generalize w.alloc (.cells #[.string a, .string p, .bool false] 27) = W1 at *
      generalize w.heap.size = Q at *
      rintro e w2 ⟨v, rfl, hst, k2⟩
      obtain ⟨va, vc, rfl, hvc, hvm⟩ := hst.form
      rw [← HN.out] at hst hvc ⊢
      have HST := Lib.hid hst
      have HBX2 := Lib.hid (HBX.out.stay k2)
      have HK2 := Lib.hid (HK1.out.then k2)
      have HST : Hid (Strs w2 (.slice va N vc) U) := HST
      unfold maxLen at hvm
      clear k2 HA HK1 HBX HL1 hst
      go_wp2_with fail
      go_loopw [6, 23] (fun _ iv wr => ∃ k : Nat, k ≤ N ∧ iv = .int .i64 (k : Int) ∧ Hid (∀ j, j < k → M ⟨a, U.getD j ⟨#[]⟩, true⟩ = false) ∧ wr = w2) (fun _ iv _ => N - (intOf iv).toNat)
      case atStart => exact ⟨0, Nat.zero_le _, rfl, Lib.hid (fun j hj => absurd hj (by omega)), rfl⟩
      case round =>
        obtain ⟨k, hk, rfl, hlo, rfl⟩ := hrel
        by_cases hlt : k < N
        · have l1 : (k : Int) < (N : Int) := by omega
          have l0 : (0 : Int) ≤ (k : Int) := by omega
          have hkl : k < U.length := by have := HN.out; omega
          obtain ⟨g, off, rfl, hg, hc⟩ := HST.out.at (k := k) hkl
          obtain ⟨u, hu⟩ : ∃ u, u = U.getD k ⟨#[]⟩ := ⟨_, rfl⟩
          rw [← hu] at hc
          have hum : u ∈ U := by rw [hu]; simp [List.getD, hkl]
          have hlk := HLK.out _ HK2.out u (HS.out u hum)
          obtain ⟨c0, c1, c2⟩ := HBX2.out
          generalize hmu : M ⟨a, u, true⟩ = mu at hlk
          have HU := Lib.hid hu; have HMU := Lib.hid hmu; have HR := Lib.hid hlk; have HUM := Lib.hid hum
          clear hu hmu hlk hum
          cases mu with
          | true =>
            have hv : V = true := by rw [HV2.out]; exact List.any_eq_true.2 ⟨u, HUM.out, HMU.out⟩
            subst hv
            clear HV2
            go_wp2_with (first
              | (at_lookup; refine wpList_lookup_run (by rfl) _ _ _ rfl _ _ rfl rfl HR.out ?_)
              | fail)
            go_ret
            exact ⟨rfl, HK2.out⟩
          | false =>
            have hI : Hid (∀ j, j < k + 1 → M ⟨a, U.getD j ⟨#[]⟩, true⟩ = false) := Lib.hid fun j hj => by
              rcases Nat.lt_or_ge j k with h | h
              · exact hlo.out j h
              · obtain rfl : j = k := by omega
                rw [← HU.out]; exact HMU.out
            go_wp2_with (first
              | (at_lookup; refine wpList_lookup_run (by rfl) _ _ _ rfl _ _ rfl rfl HR.out ?_)
              | fail)
            go_roundw
            case rel => exact ⟨k + 1, by omega, by go_num, hI, by first | rfl | trivial⟩
            case measure => simp [intOf]; omega
        · obtain rfl : k = N := by omega
          have hv : V = false := by
            rw [HV2.out, List.any_eq_false]
            intro u hu
            obtain ⟨j, hj, rfl⟩ := List.getElem_of_mem hu
            have := hlo.out j (by have := HN.out; omega)
            rw [show U.getD j ⟨#[]⟩ = U[j] by simp [List.getD, hj]] at this
            rw [this]; simp
          subst hv
          clear HV2
          go_wp2_with fail
          go_ret
          exact ⟨rfl, HK2.out⟩
  | true =>
    have hv : V = U.any fun u => M ⟨a, u, true⟩ := by rw [HV.out]; rfl
    have HV2 := Lib.hid hv
    clear hv HV HMP
    go_enter Tryd.func46, Tryd.ntmps46
    go_wp2_with fail
    refine (HA.out _).mono ?_
    generalize w.alloc (.cells #[.string a, .string p, .bool true] 27) = W1 at *
    generalize w.heap.size = Q at *
    rintro e w2 ⟨v, rfl, hst, k2⟩
    obtain ⟨va, vc, rfl, hvc, hvm⟩ := hst.form
    rw [← HN.out] at hst hvc ⊢
    have HST := Lib.hid hst
    have HBX2 := Lib.hid (HBX.out.stay k2)
    have HK2 := Lib.hid (HK1.out.then k2)
    have HST : Hid (Strs w2 (.slice va N vc) U) := HST
    unfold maxLen at hvm
    clear k2 HA HK1 HBX HL1 hst
    go_wp2_with fail
    go_loopw [6, 23] (fun _ iv wr => ∃ k : Nat, k ≤ N ∧ iv = .int .i64 (k : Int) ∧ Hid (∀ j, j < k → M ⟨a, U.getD j ⟨#[]⟩, true⟩ = false) ∧ wr = w2) (fun _ iv _ => N - (intOf iv).toNat)
    case atStart => exact ⟨0, Nat.zero_le _, rfl, Lib.hid (fun j hj => absurd hj (by omega)), rfl⟩
    case round =>
      obtain ⟨k, hk, rfl, hlo, rfl⟩ := hrel
      by_cases hlt : k < N
      · have l1 : (k : Int) < (N : Int) := by omega
        have l0 : (0 : Int) ≤ (k : Int) := by omega
        have hkl : k < U.length := by have := HN.out; omega
        obtain ⟨g, off, rfl, hg, hc⟩ := HST.out.at (k := k) hkl
        obtain ⟨u, hu⟩ : ∃ u, u = U.getD k ⟨#[]⟩ := ⟨_, rfl⟩
        rw [← hu] at hc
        have hum : u ∈ U := by rw [hu]; simp [List.getD, hkl]
        have hlk := HLK.out _ HK2.out u (HS.out u hum)
        obtain ⟨c0, c1, c2⟩ := HBX2.out
        generalize hmu : M ⟨a, u, true⟩ = mu at hlk
        have HU := Lib.hid hu; have HMU := Lib.hid hmu; have HR := Lib.hid hlk; have HUM := Lib.hid hum
        clear hu hmu hlk hum
        cases mu with
        | true =>
          have hv : V = true := by rw [HV2.out]; exact List.any_eq_true.2 ⟨u, HUM.out, HMU.out⟩
          subst hv
          clear HV2
          go_wp2_with (first
            | (at_lookup; refine wpList_lookup_run (by rfl) _ _ _ rfl _ _ rfl rfl HR.out ?_)
            | fail)
          go_ret
          exact ⟨rfl, HK2.out⟩
        | false =>
          have hI : Hid (∀ j, j < k + 1 → M ⟨a, U.getD j ⟨#[]⟩, true⟩ = false) := Lib.hid fun j hj => by
            rcases Nat.lt_or_ge j k with h | h
            · exact hlo.out j h
            · obtain rfl : j = k := by omega
              rw [← HU.out]; exact HMU.out
          go_wp2_with (first
            | (at_lookup; refine wpList_lookup_run (by rfl) _ _ _ rfl _ _ rfl rfl HR.out ?_)
            | fail)
          go_roundw
          case rel => exact ⟨k + 1, by omega, by go_num, hI, by first | rfl | trivial⟩
          case measure => simp [intOf]; omega
      · obtain rfl : k = N := by omega
        have hv : V = false := by
          rw [HV2.out, List.any_eq_false]
          intro u hu
          obtain ⟨j, hj, rfl⟩ := List.getElem_of_mem hu
          have := hlo.out j (by have := HN.out; omega)
          rw [show U.getD j ⟨#[]⟩ = U[j] by simp [List.getD, hj]] at this
          rw [this]; simp
        subst hv
        clear HV2
        go_wp2_with fail
        go_ret
        exact ⟨rfl, HK2.out⟩
end Go.Proofs.YtcooacjpblhblaaDoor
