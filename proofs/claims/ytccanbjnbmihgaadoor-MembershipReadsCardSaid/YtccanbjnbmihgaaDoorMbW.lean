/-
  membership: Users.
-/
import Derived.Test.YtccanbjnbmihgaaDoorMbU
import Derived.Test.YtccanbjnbmihgaaDoorBRw
namespace Go.Proofs.YtccanbjnbmihgaaDoor
open Go.RowKit Go.Shelf
set_option linter.unusedVariables false
set_option linter.unusedSimpArgs false

/-- Whether a user has a role on a day. -/
def usE (H : Nat → List Ent) (r d : Int) (u : Nat) : Bool := (untE (rowOf H (u : Int)) r).2 && actE (untE (rowOf H (u : Int)) r).1 d
def usersS (H : Nat → List Ent) (r d : Int) (k : Nat) : List Int := ((List.range k).filter (usE H r d)).map Int.ofNat
theorem usersS_len (H : Nat → List Ent) (r d : Int) (k : Nat) : (usersS H r d k).length ≤ k := by
  unfold usersS
  rw [List.length_map]
  have := List.length_filter_le (usE H r d) (List.range k)
  rwa [List.length_range] at this
theorem usersS_yes (H : Nat → List Ent) (r d : Int) (k : Nat) (h : usE H r d k = true) : usersS H r d (k + 1) = usersS H r d k ++ [(k : Int)] := by
  unfold usersS
  rw [List.range_succ, List.filter_append, List.map_append, List.filter_cons, if_pos h]
  rfl
theorem usersS_no (H : Nat → List Ent) (r d : Int) (k : Nat) (h : usE H r d k = false) : usersS H r d (k + 1) = usersS H r d k := by
  unfold usersS
  rw [List.range_succ, List.filter_append, List.map_append, List.filter_cons, if_neg (by rw [h]; simp)]
  simp

set_option maxRecDepth 100000 in
set_option maxHeartbeats 3200000 in
theorem users_none (w : World) (r d : Int) : Calls Tryd.prog 29 #[.pointer none, .int .i64 r, .int .i64 d] w fun e w' => e = .returned (.slice none 0 0) ∧ Kept (fun _ => False) w w' := by
  go_enter Tryd.func29, Tryd.ntmps29
  go_wp2_with fail
  go_loopw [7, 11] (fun ov iv wr => ∃ (k : Nat), k ≤ 257 ∧ iv = .int .i64 k ∧ ov = .slice none 0 0 ∧ Hid (Kept (fun _ => False) w wr)) (fun _ iv _ => 257 - (intOf iv).toNat)
  case atStart => exact ⟨0, Nat.zero_le _, rfl, rfl, Lib.hid (Kept.refl _ _)⟩
  case round =>
    obtain ⟨k, hk, rfl, rfl, hkw⟩ := hrel
    by_cases hlt : k < 257
    · have l1 : (k : Int) < 257 := by omega
      go_wp2_with (first
        | (go_at_call 23; refine (until_none _ _ _).mono ?_; rintro e w1 ⟨rfl, k1⟩
           have K1 : Hid (Kept (fun _ => False) w w1) := Lib.hid (hkw.out.then k1)
           clear k1))
      go_roundw
      case rel => first | exact ⟨k + 1, by omega, by go_num, rfl, K1⟩ | ((repeat apply Exists.intro); exact ⟨⟨k + 1, by omega, by go_num, rfl, K1⟩, rfl⟩)
      case measure => simp [intOf]; omega
    · obtain rfl : k = 257 := by omega
      go_wp2_with fail
      go_ret
      exact ⟨rfl, hkw.out⟩

set_option maxRecDepth 100000 in
set_option maxHeartbeats 3200000 in
theorem users_any (w : World) (v : Value) (M : Nat) (H : Nat → List Ent) (r d : Int) (h : BookV w v M H) (hM : M ≤ 100000) :
    Calls Tryd.prog 29 #[v, .int .i64 r, .int .i64 d] w fun e w' => ∃ v', e = .returned v' ∧ OwnI w' w.heap.size v' (usersS H r d 257) ∧ Kept (fun _ => False) w w' := by
  have HB := Lib.hid h
  obtain ⟨bb, hv, hp, -, -⟩ := h
  subst hp
  go_enter Tryd.func29, Tryd.ntmps29
  go_wp2_with fail
  go_loopw [7, 11] (fun ov iv wr => ∃ (k : Nat), k ≤ 257 ∧ iv = .int .i64 k ∧ Hid (OwnI wr w.heap.size ov (usersS H r d k)) ∧ Hid (Kept (fun _ => False) w wr)) (fun _ iv _ => 257 - (intOf iv).toNat)
  case atStart => exact ⟨0, Nat.zero_le _, rfl, Lib.hid (OwnI.nil _ _), Lib.hid (Kept.refl _ _)⟩
  case round =>
    obtain ⟨k, hk, rfl, ho, hkw⟩ := hrel
    by_cases hlt : k < 257
    · have l1 : (k : Int) < 257 := by omega
      have hu := until_any wr _ M H (k : Int) r (HB.out.kept hkw.out) hM
      obtain ⟨tt, htt⟩ : ∃ tt, tt = (untE (rowOf H (k : Int)) r).1 := ⟨_, rfl⟩
      obtain ⟨fb, hfb⟩ : ∃ fb, fb = (untE (rowOf H (k : Int)) r).2 := ⟨_, rfl⟩
      rw [← htt, ← hfb] at hu
      obtain ⟨ab, hab⟩ : ∃ ab, ab = actE tt d := ⟨_, rfl⟩
      have HE : Hid (usE H r d k = (fb && ab)) := Lib.hid (by unfold usE; rw [← htt, ← hfb, ← hab])
      have HC : Hid (∀ W, Calls Tryd.prog 57 #[.int .i64 tt, .int .i64 d] W fun e w' => e = .returned (.bool ab) ∧ W = w') := Lib.hid fun W => by rw [hab]; exact active_any tt d W
      have HU := Lib.hid hu
      have HL := Lib.hid (usersS_len H r d k)
      clear hu htt hfb hab
      by_cases hb : (fb && ab) = true
      · have HS := Lib.hid (usersS_yes H r d k (HE.out.trans hb))
        obtain ⟨rfl, rfl⟩ : fb = true ∧ ab = true := by simpa using hb
        clear hb HE
        generalize usersS H r d k = acc at ho HS HL
        go_wp2_with (first
          | (go_at_call 23; refine HU.out.mono ?_; rintro e w1 ⟨rfl, k1⟩
             have K1 : Hid (Kept (fun _ => False) w w1) := Lib.hid (hkw.out.then k1)
             have O1 : Hid (OwnI w1 w.heap.size u7 acc) := Lib.hid ⟨k1.owns ho.out.own (fun _ _ h => h)⟩
             clear k1)
          | (go_at_call 57; refine (HC.out _).mono ?_; rintro e w2 ⟨rfl, rfl⟩)
          | (at_builtin; refine wpList_push (by rfl) _ _ rfl rfl w.heap.size _ _ w1.heap.size (k : Int) rfl rfl (O1.out.alloc _) (by go_simp) (by have := HL.out; omega) (by have := K1.out.size; simp; omega) ?_
             intro v' w3 hown3 hk3
             have O3 : Hid (OwnI w3 w.heap.size v' (usersS H r d (k + 1))) := by rw [HS.out]; exact Lib.hid hown3
             have K3 : Hid (Kept (fun _ => False) w w3) := Lib.hid ((K1.out.then (Kept.alloc _ _ _)).trans hk3 (fun _ _ h => h) (fun i hi e => by have := O1.out.lt i e; omega))
             clear hown3 hk3))
        go_roundw
        case rel => first | exact ⟨k + 1, by omega, by go_num, O3, K3⟩ | ((repeat apply Exists.intro); exact ⟨⟨k + 1, by omega, by go_num, O3, K3⟩, rfl⟩)
        case measure => simp [intOf]; omega
      · have HS := Lib.hid (usersS_no H r d k (HE.out.trans (by simpa using hb)))
        have hcase : fb = false ∨ (fb = true ∧ ab = false) := by
          cases fb
          · exact Or.inl rfl
          · cases ab
            · exact Or.inr ⟨rfl, rfl⟩
            · exact absurd rfl hb
        clear hb HE
        have HO : Hid (OwnI wr w.heap.size u7 (usersS H r d (k + 1))) := by rw [HS.out]; exact ho
        clear ho HS HL
        rcases hcase with rfl | ⟨rfl, rfl⟩
        all_goals
          go_wp2_with (first
            | (go_at_call 23; refine HU.out.mono ?_; rintro e w1 ⟨rfl, k1⟩
               have K1 : Hid (Kept (fun _ => False) w w1) := Lib.hid (hkw.out.then k1)
               have O1 : Hid (OwnI w1 w.heap.size u7 (usersS H r d (k + 1))) := Lib.hid ⟨k1.owns HO.out.own (fun _ _ h => h)⟩
               clear k1)
            | (go_at_call 57; refine (HC.out _).mono ?_; rintro e w2 ⟨rfl, rfl⟩))
          go_roundw
          case rel => first | exact ⟨k + 1, by omega, by go_num, O1, K1⟩ | ((repeat apply Exists.intro); exact ⟨⟨k + 1, by omega, by go_num, O1, K1⟩, rfl⟩)
          case measure => simp [intOf]; omega
    · obtain rfl : k = 257 := by omega
      go_wp2_with fail
      go_ret
      exact ⟨_, rfl, ho.out, hkw.out⟩
end Go.Proofs.YtccanbjnbmihgaaDoor
