/-
  The reference's Same, the table's Names; arbaclaw08.NamesAdds returns true.
-/
import Derived.Test.YtneappinkfhjmaaDoorNamS
namespace Go.Proofs.YtneappinkfhjmaaDoor
open Go.RowKit

set_option maxRecDepth 100000 in
set_option maxHeartbeats 800000 in
theorem rsame8_any (v1 v2 : Value) (xs ys : List ByteArray) (w : World) (h1 : Strs w v1 xs) (h2 : Strs w v2 ys) :
    Calls Tryd.prog 23 #[v1, v2] w fun e w' => e = .returned (.bool (decide (xs = ys))) ∧ Kept (fun _ => False) w w' := by
  obtain ⟨R, hR⟩ : ∃ R, R = decide (xs = ys) := ⟨_, rfl⟩
  rw [← hR]
  obtain ⟨a1, c1, rfl, hc1, hm1⟩ := h1.form
  obtain ⟨a2, c2, rfl, hc2, hm2⟩ := h2.form
  unfold maxLen at hm1 hm2
  have HR := Lib.hid hR
  clear hR
  by_cases hlen : xs.length = ys.length
  · have H1 := Lib.hid h1; have H2 := Lib.hid h2
    obtain ⟨n, hn⟩ : ∃ n, n = xs.length := ⟨_, rfl⟩
    have hn2 : n = ys.length := by omega
    have hnb : n ≤ 9223372036854775807 := by omega
    rw [← hn] at H1
    rw [← hn2] at H2
    rw [← hn, ← hn2]
    have HN := Lib.hid hn; have HN2 := Lib.hid hn2
    clear h1 h2 hn hn2 hlen hc1 hm1 hc2 hm2
    go_enter Tryd.func23, Tryd.ntmps23
    go_wp2_with fail
    go_loopw [13] (fun iv wr => ∃ k : Nat, k ≤ n ∧ iv = .int .i64 k ∧ Hid (∀ j, j < k → xs.getD j ⟨#[]⟩ = ys.getD j ⟨#[]⟩) ∧ Hid (Kept (fun _ => False) w wr)) (fun iv _ => n - (intOf iv).toNat)
    case atStart => exact ⟨0, by omega, rfl, fun j hj => by omega, Kept.refl _ _⟩
    case round =>
      obtain ⟨k, hk, rfl, heq, hkw⟩ := hrel
      by_cases hlt : k < n
      · have l1 : (k : Int) < (n : Int) := by omega
        have l0 : (0 : Int) ≤ (k : Int) := by omega
        obtain ⟨g, off, rfl, _, hcell⟩ := (H1.out.kept hkw.out (fun _ _ h => h)).at (k := k) (by have := HN.out; omega)
        obtain ⟨g', off', rfl, _, hcell'⟩ := (H2.out.kept hkw.out (fun _ _ h => h)).at (k := k) (by have := HN2.out; omega)
        obtain ⟨x, hx⟩ : ∃ x, x = xs.getD k ⟨#[]⟩ := ⟨_, rfl⟩
        obtain ⟨y, hy⟩ : ∃ y, y = ys.getD k ⟨#[]⟩ := ⟨_, rfl⟩
        rw [← hx] at hcell
        rw [← hy] at hcell'
        have HX := Lib.hid hx; have HY := Lib.hid hy
        clear hx hy
        by_cases he : x = y
        · have hb : (x.toList == y.toList) = true := by rw [str_eq]; simp [he]
          have heq2 : Hid (∀ j, j < k + 1 → xs.getD j ⟨#[]⟩ = ys.getD j ⟨#[]⟩) := fun j hj => by
            by_cases e : j < k
            · exact heq.out j e
            · obtain rfl : j = k := by omega
              rw [← HX.out, ← HY.out]; exact he
          clear he heq
          go_wp2_with fail
          go_quiet (fail)
          have HK2 := Lib.hid (hkw.out.drewN nq)
          generalize wr.drewN nq = wd at *
          go_wp2_with fail
          go_roundw
          case rel => first | exact ⟨k + 1, by omega, by go_num, heq2, HK2⟩ | ((repeat apply Exists.intro); exact ⟨⟨k + 1, by omega, by go_num, heq2, HK2⟩, rfl⟩) | ((repeat apply Exists.intro); exact ⟨by omega, by go_num, heq2, HK2⟩)
          case measure => simp [intOf]; omega
        · have hb : (x.toList == y.toList) = false := by rw [str_eq]; simp [he]
          have hrf : R = false := by
            rw [HR.out, decide_eq_false_iff_not]
            intro h
            exact he (by rw [HX.out, HY.out, h])
          clear he heq
          subst hrf
          go_wp2_with fail
          go_quiet (fail)
          have HK2 := Lib.hid (hkw.out.drewN nq)
          generalize wr.drewN nq = wd at *
          go_wp2_with fail
          go_ret
          exact ⟨rfl, HK2.out⟩
      · obtain rfl : k = n := by omega
        have hrt : R = true := by
          rw [HR.out, decide_eq_true_iff]
          apply List.ext_getElem
          · rw [← HN.out, ← HN2.out]
          · intro i h1 h2
            have := heq.out i (by have := HN.out; omega)
            simpa [List.getD, h1, h2] using this
        clear heq
        subst hrt
        go_wp2_with fail
        go_ret
        exact ⟨rfl, hkw.out⟩
  · have hrf : R = false := by
      rw [HR.out, decide_eq_false_iff_not]
      intro h
      exact hlen (by rw [h])
    have hli : ¬ (xs.length : Int) = (ys.length : Int) := by omega
    subst hrf
    clear h1 h2
    go_enter Tryd.func23, Tryd.ntmps23
    go_wp2_with fail
    go_ret
    exact ⟨rfl, Kept.refl _ _⟩

set_option maxRecDepth 100000 in
theorem tnames_any (w : World) (g : Nat) (xs : List ByteArray) (v : Value) (m n : Nat) (D : DataW Unit) (h : TabAt w g xs v m n D) :
    Calls Tryd.prog 16 #[.pointer (some ⟨g, 0, none⟩)] w fun e w' => ∃ v', e = .returned v' ∧ w'.ownsRow w.heap.size 9 1 v' xs.length (xs.map Value.string) ∧ Kept (fun _ => False) w w' := by
  have HC := Lib.hid (sclone_any v xs w (strs_own h.row) h.le)
  obtain ⟨a, c, hf, _, _⟩ := (strs_own h.row).form
  have c0 := h.c0
  subst hf
  clear h
  go_enter Tryd.func16, Tryd.ntmps16
  go_wp2_with fail
  refine HC.out.mono ?_
  rintro e w1 ⟨v1, rfl, hown, hk⟩
  have HO := Lib.hid hown; have HK := Lib.hid hk
  clear hown hk
  go_wp2_with fail
  go_ret
  exact ⟨_, rfl, HO.out, HK.out⟩

/-- What the loops that add names keep: the table, and the list of what was added. -/
structure AddInv (w wr : World) (g : Nat) (tv : Value) (xs : List ByteArray) : Prop where
  tab : ∃ v m n D, TabAt wr g xs v m n D ∧ ∀ j, tv.ownBlock = some j → j ≠ g ∧ j ≠ m ∧ v.ownBlock ≠ some j
  row : wr.ownsRow w.heap.size 9 1 tv xs.length (xs.map Value.string)
  kept : Kept (fun _ => False) w wr

theorem AddInv.on {w w1 w2 : World} {g : Nat} {tv : Value} {xs : List ByteArray} (h : AddInv w w1 g tv xs) (hk : Kept (fun _ => False) w1 w2) : AddInv w w2 g tv xs := by
  obtain ⟨v, m, n, D, ht, hap⟩ := h.tab
  exact ⟨⟨v, m, n, D, ht.stay hk, hap⟩, hk.owns h.row (fun _ _ h => h), h.kept.then hk⟩

/-- A name is added to the list. -/
theorem AddInv.push {w w1 w2 w3 : World} {g g' gg H cap l c : Nat} {a : Option Addr} {xs : List ByteArray} {s : ByteArray} {v' : Value} {m' n' : Nat} {D' : DataW Unit} (h : AddInv w w1 g (.slice a l c) xs)
    (hk : Kept (fun _ => False) w1 w2) (ht : TabAt w2 g' (xs ++ [s]) v' m' n' D') (hg : w1.heap.size ≤ g') (hm : w1.heap.size ≤ m') (hv : ∀ k, v'.ownBlock = some k → w1.heap.size ≤ k)
    (kp : Kept (blk (.slice a l c)) w2 w3) (hown : w3.ownsRow w.heap.size 9 1 (.slice (some ⟨gg, 0, none⟩) (xs.length + 1) cap) (xs.length + 1) (xs.map Value.string ++ [.string s])) (hat : (Value.slice a l c).ownBlock = some gg ∨ gg = H) (hH : w2.heap.size ≤ H) :
    AddInv w w3 g' (.slice (some ⟨gg, 0, none⟩) (xs.length + 1) cap) (xs ++ [s]) := by
  have hlt := h.row.lt
  refine ⟨⟨v', m', n', D', ht.kept kp (fun e => by have := hlt _ e; omega) (fun k hk e => by have := hlt _ e; have := hv k hk; omega) (fun e => by have := hlt _ e; omega), fun j hj => ?_⟩, ?_, (h.kept.then hk).trans kp (fun _ _ h => h) (fun i hi e => by have := hlt _ e; omega)⟩
  · have hgj : gg = j := by simpa [Value.ownBlock] using hj
    subst hgj
    rcases hat with e | e
    · have := hlt _ e
      exact ⟨by omega, by omega, fun e2 => by have := hv _ e2; omega⟩
    · have h1 := ht.lt; have h2 := ht.map.lt
      exact ⟨by omega, by omega, fun e2 => by have := (ht.row.lt _ e2).2; omega⟩
  · rw [List.length_append, List.map_append]; exact hown

end Go.Proofs.YtneappinkfhjmaaDoor
