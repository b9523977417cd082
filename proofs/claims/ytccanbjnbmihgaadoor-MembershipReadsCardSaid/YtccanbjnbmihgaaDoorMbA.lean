/-
  membership: Assign.
-/
import Derived.Test.YtccanbjnbmihgaaDoorMbU
import Derived.Test.YtccanbjnbmihgaaDoorMbQ
namespace Go.Proofs.YtccanbjnbmihgaaDoor
open Go.RowKit Go.Shelf
set_option linter.unusedVariables false
set_option linter.unusedSimpArgs false

def bookL (hv : Nat → Value) : List Value := (List.range 257).map hv
theorem bookL_length (hv : Nat → Value) : (bookL hv).length = 257 := by simp [bookL]
theorem bookL_at (hv : Nat → Value) (u : Nat) (hu : u < 257) : (bookL hv)[u]? = some (hv u) := by simp [bookL, hu]
theorem Ents.blt {w : World} {v : Value} {l : List Ent} (h : Ents w v l) : ∀ k, v.ownBlock = some k → k < w.heap.size := fun k hk => by
  rcases h with ⟨rfl, _⟩ | ⟨g, off, cap, rfl, _, _, h3, _⟩
  · simp [Value.ownBlock] at hk
  · have : g = k := by simpa [Value.ownBlock] using hk
    rw [← this]; exact h3
theorem book_copy {w : World} {bb M : Nat} {hv : Nat → Value} {H : Nat → List Ent} (h : BookAt w bb M hv H) (T : TypeId) :
    BookAt ((w.alloc (.cells book0.toArray T)).setCells w.heap.size 0 (bookL hv)) w.heap.size M hv H ∧ Kept (fun _ => False) w ((w.alloc (.cells book0.toArray T)).setCells w.heap.size 0 (bookL hv)) := by
  have ka : Kept (fun _ => False) w (w.alloc (.cells book0.toArray T)) := Kept.alloc _ _ _
  have ks := setCells_kept w.heap.size (bookL hv) 0 (w.alloc (.cells book0.toArray T))
  have k : Kept (fun _ => False) w ((w.alloc (.cells book0.toArray T)).setCells w.heap.size 0 (bookL hv)) := ka.trans ks (fun _ _ h => h) (fun i hi e => by omega)
  refine ⟨⟨fun u hu => ?_, fun u => ?_, fun u hu => (h.row u hu).kept k (fun _ _ h => h), fun u q hu hq => by have := (h.row u hu).blt q hq; omega, h.asc, h.len, h.user⟩, k⟩
  · have := World.cell?_setCells_in w.heap.size (bookL hv) 0 (w.alloc (.cells book0.toArray T)) (fun j hj => by rw [bookL_length] at hj; rw [Nat.zero_add, book0_at w T j hj]; rfl) u (by rw [bookL_length]; exact hu)
    rw [Nat.zero_add] at this
    exact this.trans ((List.getElem?_eq_getElem _).symm.trans (bookL_at hv u hu))
  · rw [World.frozen?_setCells]; exact book0_free w T u

/-- What Assign answers besides OK. -/
def asgErr (u r t : Int) : Int := if ¬ (1 ≤ u ∧ u ≤ 256) ∨ ¬ (1 ≤ r ∧ r ≤ 63) then 1 else if ¬ (0 ≤ t ∧ t ≤ 30000) then 2 else 0

set_option maxRecDepth 100000 in
set_option maxHeartbeats 3200000 in
theorem assign_nil (w : World) (u r t : Int) : Calls Tryd.prog 19 #[.pointer none, .int .i64 u, .int .i64 r, .int .i64 t] w fun e w' => e = .returned (.tuple #[.pointer none, .int .i64 1]) ∧ w = w' := by
  go_enter Tryd.func19, Tryd.ntmps19
  go_wp2_with fail
  all_goals go_ret2
  all_goals exact ⟨rfl, rfl⟩

set_option maxRecDepth 100000 in
set_option maxHeartbeats 3200000 in
theorem assign_no (w : World) (a : Addr) (u r t : Int) (h : asgErr u r t ≠ 0) : Calls Tryd.prog 19 #[.pointer (some a), .int .i64 u, .int .i64 r, .int .i64 t] w fun e w' => e = .returned (.tuple #[.pointer none, .int .i64 (asgErr u r t)]) ∧ w = w' := by
  by_cases hu1 : u < 1
  · have he : asgErr u r t = 1 := by unfold asgErr; rw [if_pos (Or.inl (by omega))]
    rw [he]; clear h he
    go_enter Tryd.func19, Tryd.ntmps19
    go_wp2_with fail
    all_goals go_ret2
    all_goals exact ⟨rfl, rfl⟩
  · by_cases hu2 : 256 < u
    · have he : asgErr u r t = 1 := by unfold asgErr; rw [if_pos (Or.inl (by omega))]
      rw [he]; clear h he
      go_enter Tryd.func19, Tryd.ntmps19
      go_wp2_with fail
      all_goals go_ret2
      all_goals exact ⟨rfl, rfl⟩
    · by_cases hr1 : r < 1
      · have he : asgErr u r t = 1 := by unfold asgErr; rw [if_pos (Or.inr (by omega))]
        rw [he]; clear h he
        go_enter Tryd.func19, Tryd.ntmps19
        go_wp2_with fail
        all_goals go_ret2
        all_goals exact ⟨rfl, rfl⟩
      · by_cases hr2 : 63 < r
        · have he : asgErr u r t = 1 := by unfold asgErr; rw [if_pos (Or.inr (by omega))]
          rw [he]; clear h he
          go_enter Tryd.func19, Tryd.ntmps19
          go_wp2_with fail
          all_goals go_ret2
          all_goals exact ⟨rfl, rfl⟩
        · by_cases ht1 : t < 0
          · have he : asgErr u r t = 2 := by unfold asgErr; rw [if_neg (by omega), if_pos (by omega)]
            rw [he]; clear h he
            go_enter Tryd.func19, Tryd.ntmps19
            go_wp2_with fail
            all_goals go_ret2
            all_goals exact ⟨rfl, rfl⟩
          · by_cases ht2 : 30000 < t
            · have he : asgErr u r t = 2 := by unfold asgErr; rw [if_neg (by omega), if_pos (by omega)]
              rw [he]; clear h he
              go_enter Tryd.func19, Tryd.ntmps19
              go_wp2_with fail
              all_goals go_ret2
              all_goals exact ⟨rfl, rfl⟩
            · exact absurd (by unfold asgErr; rw [if_neg (by omega), if_neg (by omega)]) h

set_option maxRecDepth 100000 in
set_option maxHeartbeats 3200000 in
theorem assign_any (w : World) (v : Value) (M : Nat) (H : Nat → List Ent) (u : Nat) (r t : Int) (h : BookV w v M H) (hM : M ≤ 100000) (h1 : 1 ≤ u) (h2 : u ≤ 256) (h3 : 1 ≤ r) (h4 : r ≤ 63) (h5 : 0 ≤ t) (h6 : t ≤ 30000) :
    Calls Tryd.prog 19 #[v, .int .i64 (u : Int), .int .i64 r, .int .i64 t] w fun e w' =>
      ∃ v', e = .returned (.tuple #[v', .int .i64 0]) ∧ BookV w' v' (M + 1) (upd H u (putR (H u) ⟨u, r, t⟩)) ∧ Kept (fun _ => False) w w' := by
  obtain ⟨bb, hv, rfl, hb, hr⟩ := h
  obtain ⟨cb, ck⟩ := book_copy hb 92
  have hc : ∀ j v, (bookL hv)[j]? = some v → w.cell? ⟨bb, 0 + j, none⟩ = some v := fun j v hj => by
    have hl : j < 257 := by
      have := (List.getElem?_eq_some_iff.1 hj).1
      rwa [bookL_length] at this
    rw [bookL_at hv j hl] at hj
    cases hj
    rw [Nat.zero_add]
    exact hb.cell j hl
  have z1 : ∀ j, j < (bookL hv).length → ((w.alloc (.cells book0.toArray 92)).cell? ⟨w.heap.size, 0 + j, none⟩).isSome = true := fun j hj => by
    rw [bookL_length] at hj; rw [Nat.zero_add, book0_at w _ j hj]; rfl
  have z2 : ∀ j, j < (bookL hv).length → (w.alloc (.cells book0.toArray 92)).frozen? ⟨w.heap.size, 0 + j, none⟩ = false := fun j hj => book0_free w _ _
  have ho : ∀ v ∈ bookL hv, v.oneCell' = true := fun v hvm => by
    simp only [bookL, List.mem_map, List.mem_range] at hvm
    obtain ⟨k, hk, rfl⟩ := hvm
    obtain ⟨a, c, hf, _⟩ := (hb.row k hk).form
    rw [hf]; rfl
  have hs : (Tryd.prog.info? 92).map (·.size) = some (bookL hv).length := by rw [bookL_length]; exact book_size
  have hz := fun W => book0_zero W
  generalize hcs : bookL hv = cs at *
  have HCo := Lib.hid hc; have Z1 := Lib.hid z1; have Z2 := Lib.hid z2; have HOn := Lib.hid ho; have HSz := Lib.hid hs; have HCB := Lib.hid cb; have HCK := Lib.hid ck; have HR := Lib.hid hr
  obtain ⟨Q, hQ⟩ : ∃ Q, Q = w.heap.size := ⟨_, rfl⟩
  have i1 : ¬ ((u : Int) < 1) := by omega
  have i2 : ¬ (256 < (u : Int)) := by omega
  clear hc z1 z2 ho hs cb ck hcs hb hr
  go_enter Tryd.func19, Tryd.ntmps19
  go_wp2_with (first
    | (refine wpList_load_at rfl 92 _ rfl bb 0 rfl cs _ HCo.out Tryd.underlying92 rfl HSz.out ?_)
    | (refine wpList_store_at rfl 92 _ _ rfl w.heap.size 0 cs rfl rfl Z1.out Z2.out HOn.out HSz.out ?_
       generalize (w.alloc (.cells book0.toArray 92)).setCells w.heap.size 0 cs = w1 at *)
    | (go_at_call 53; refine (put_any w1 w.heap.size M u hv H r t HCB.out hM h1 h2).mono ?_; rintro e w2 ⟨v', rfl, hb2, k2⟩
       have HB2 := Lib.hid hb2; have K2 := Lib.hid k2; clear hb2 k2))
  go_ret2
  exact ⟨_, rfl, ⟨_, _, rfl, HB2.out, HR.out.put (by omega) h1 rfl ⟨h3, h4⟩ ⟨h5, h6⟩⟩, HCK.out.trans K2.out (fun _ _ h => h) (fun q hq e => by have e : q = w.heap.size := e; omega)⟩
end Go.Proofs.YtccanbjnbmihgaaDoor
