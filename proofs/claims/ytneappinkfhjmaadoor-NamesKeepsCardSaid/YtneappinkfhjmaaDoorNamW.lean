/-
  Tables of names: slices.Clone of strings, maps.Copy, put.
-/
import Derived.Test.YtneappinkfhjmaaDoorNamT
import Derived.Deep.AppendLies
namespace Go.Proofs.YtneappinkfhjmaaDoor
open Go.RowKit Go.Maps Go.WideMaps Go.ChangeMaps

theorem strv_getD (xs : List ByteArray) (i : Nat) (hi : i < xs.length) : (xs.map Value.string)[i]? = some (.string (xs.getD i ⟨#[]⟩)) := by simp [List.getD, hi]

set_option maxRecDepth 100000 in
set_option maxHeartbeats 800000 in
theorem sclone_any (v : Value) (xs : List ByteArray) (w : World) (h : Strs w v xs) (hl : xs.length ≤ 256) :
    Calls Tryd.prog 57 #[v] w fun e w' => ∃ v', e = .returned v' ∧ w'.ownsRow w.heap.size 9 1 v' xs.length (xs.map Value.string) ∧ Kept (fun _ => False) w w' := by
  obtain ⟨i0, hi, hz0, hz1, hz2⟩ := info_parts info_str
  have q := fun (W : World) (a : Option Addr) (n c n' c' : Nat) => Lib.run_eql_slice_nil (P := Tryd.prog) W 26 9 a n c n' c' Tryd.underlying26
  rcases h with ⟨rfl, rfl⟩ | ⟨g, off, cap, rfl, h1, h2, h3, h4⟩
  · go_enter Tryd.func57, Tryd.ntmps57
    go_wp2_with fail
    go_ret
    exact ⟨_, rfl, World.ownsRow_nil _ _ _ _, Kept.refl _ _⟩
  · have hown : (w.alloc (.cells #[] 9)).ownsRow w.heap.size 9 1 (.slice (some ⟨w.heap.size, 0, none⟩) 0 0) 0 [] := ⟨by simp, Or.inr ⟨w.heap.size, 0, #[], rfl, Nat.le_refl _, heap_alloc_new w _, Nat.le_refl _, Nat.zero_le _, by simp, by simp⟩⟩
    have hnews : ∀ j u, (xs.map Value.string)[j]? = some u → (w.alloc (.cells #[] 9)).cell? ((⟨g, off, none⟩ : Addr).add j) = some u := fun j u hu => by
      have hadd : (⟨g, off, none⟩ : Addr).add j = ⟨g, off + j, none⟩ := by unfold Addr.add; split <;> simp_all
      have hj : j < xs.length := by
        have := (List.getElem?_eq_some_iff.1 hu).1
        simpa using this
      rw [hadd, World.cell?_alloc_past _ _ _ h3, h4 j hj, ← strv_getD xs j hj]; exact hu
    have hone : ∀ u ∈ xs.map Value.string, u.oneCell' = true := fun u hu => by
      simp only [List.mem_map] at hu
      obtain ⟨s, _, rfl⟩ := hu
      rfl
    obtain ⟨n, hn⟩ : ∃ n, n = xs.length := ⟨_, rfl⟩
    have hlen : (xs.map Value.string).length = n * 1 := by simp [hn]
    rw [← hn] at hl ⊢
    have HO := Lib.hid hown; have HN := Lib.hid hnews; have H1 := Lib.hid hone; have HL := Lib.hid hlen
    clear hown hnews hone hlen h1 h2 h3 h4 hn
    generalize xs.map Value.string = vs at *
    go_enter Tryd.func57, Tryd.ntmps57
    go_wp2_with (at_builtin; refine wpList_append_own_at _ rfl _ _ _ rfl w.heap.size 9 i0 _ 1 16 Tryd.underlying26 hi hz0 hz1 hz2 rfl (by omega) (.slice (some ⟨w.heap.size, 0, none⟩) 0 0) 0 [] rfl HO.out ⟨g, off, none⟩ n cap vs rfl HL.out HN.out H1.out (by unfold maxLen; omega) (by omega) (by simp) ?_)
    intro v' w1 hown1 hgrow _ hat
    have hk := (Kept.alloc (fun _ => False) w (.cells #[] 9)).trans (T := fun _ => False) (Kept.ofGrown (S := fun k => k = w.heap.size) hgrow (fun k e => by simp [Value.ownBlock] at e; exact e.symm)) (fun _ _ h => h) (fun i hi e => by omega)
    have HO1 := Lib.hid hown1; have HK := Lib.hid hk
    clear hown1 hgrow hat hk
    go_wp2
    go_ret
    exact ⟨_, rfl, by simpa using HO1.out, HK.out⟩

theorem key_inv {v : Value} {kl : Lit} (h : keyOf Tryd.prog 9 v = some kl) : ∃ s : ByteArray, v = .string s ∧ kl = .string s.data.toList ∧ s.size ≤ maxLen := by
  rw [keyOf_string Tryd.underlying9] at h
  unfold mapKey at h
  cases v <;> simp [Tryd.underlying9] at h
  rename_i s
  exact ⟨s, rfl, h.2.symm, h.1⟩

set_option maxRecDepth 100000 in
set_option maxHeartbeats 1600000 in
theorem mcopy_any (bd bs n : Nat) (D0 : DataW Unit) (w : World) (hd : w.ownsMap (H := Unit) Tryd.prog 9 (plainElem Tryd.prog 3) bd 0 (.map [])) (hs : w.ownsMap Tryd.prog 9 (plainElem Tryd.prog 3) bs n D0) (hne : bd ≠ bs) (hmax : Maps.size D0 ≤ 256) :
    Calls Tryd.prog 58 #[.map (some bd), .map (some bs)] w fun e w' => e = .returned (.tuple #[]) ∧ w'.ownsMap Tryd.prog 9 (plainElem Tryd.prog 3) bd (Maps.size D0) D0 ∧ Kept (fun k => k = bd) w w' := by
  have hdl := hd.lt
  have hsl := hs.lt
  have HD := Lib.hid hd; have HS := Lib.hid hs
  clear hd hs
  go_enter Tryd.func58, Tryd.ntmps58
  go_wp2_with (first
    | (at_range; refine wpList_range_own _ rfl _ 89 rfl 9 3 lawS Tryd.underlying89 _ bs n _ rfl HS.out ?_; intro w0 hrg0 hg0 hs0)
    | go_in)
  go_frame
  go_loopw [4, 5] (fun _ _ wr => ∃ (left : Lit → Bool) (cnt : Nat) (Dout : DataW Unit), wr.ranges Tryd.prog 9 (plainElem Tryd.prog 3) bs w.heap.size n D0 left cnt ∧ cnt ≤ Maps.size D0 ∧
      wr.ownsMap Tryd.prog 9 (plainElem Tryd.prog 3) bd (Maps.size D0 - cnt) Dout ∧ Agree Dout D0 left ∧ Kept (fun k => k = bd) w wr)
    (fun _ _ wr => wr.rangeLeft bs w.heap.size)
  case atStart =>
    exact ⟨_, _, .map [], hrg0, Nat.le_refl _, (HD.out.kept hg0 (by simp)).mono (Nat.zero_le _), agree_start D0, Kept.ofGrown hg0 (fun k e => by cases e)⟩
  case round =>
    obtain ⟨left, cnt, Dout, hrg, hcs, hout, hA, hnx⟩ := hrel
    go_wp2_with (first
      | (at_next; refine wpList_next_ranges _ rfl _ rfl 9 lawS (plainElem Tryd.prog 3) Value.string (Value.int .i64) (fun key kl h => by obtain ⟨s, rfl, _⟩ := key_inv h; exact ⟨s, rfl⟩) (fun v y h => by obtain ⟨c, rfl, _⟩ := plainElem_int_inv Tryd.underlying3 h; exact ⟨c, rfl⟩) bs w.heap.size n _ _ _ rfl hrg ?_ ?_)
      | go_in)
    · intro hc0 hl0
      go_wp2
      go_end0
      subst hc0
      have e := agree_end hA hl0 (hout.canon lawS) (HS.out.canon lawS)
      subst e
      exact ⟨rfl, by simpa using hout, hnx⟩
    · intro x c kl y ys w1 cnt1 hkey hlx hv hat hrg1 hlt hg1 hs1 hen
      obtain ⟨x', ex, rfl, hxs⟩ := key_inv hkey
      cases ex
      obtain ⟨c', ec, ey, hwc⟩ := plainElem_int_inv Tryd.underlying3 hv
      cases ec
      cases ey
      have hout1 := hout.kept hg1 (by simp; omega)
      go_wp2_with (first
        | (at_mapUpdate; refine wpList_mapUpdate_own _ rfl _ _ _ 89 rfl 9 3 lawS Tryd.underlying89 _ bd _ _ rfl hout1 (by unfold maxLen; omega) _ _ _ rfl rfl hkey _ [] (plainElem_int Tryd.underlying3 hwc) ?_; intro w2 hout2 hg2; go_frame)
        | go_in)
      have hrg2 := hrg1.kept hg2 (fun e => by have := Option.some.inj e; omega) (fun e => by have := Option.some.inj e; omega)
      go_roundw
      case rel =>
        exact ⟨_, cnt1, _, hrg2, by omega, hout2.mono (by omega), agree_step hA hout.isMap trivial hat,
          (hnx.trans (Kept.ofGrown (S := fun k => k = w.heap.size) hg1 (fun k e => (Option.some.inj e).symm)) (fun _ _ h => h) (fun i hi e => by omega)).trans (Kept.ofGrown (S := fun k => k = bd) hg2 (fun k e => (Option.some.inj e).symm)) (fun _ _ h => h) (fun _ _ h => h)⟩
      case measure => rw [hrg2.left_eq, hrg.left_eq]; exact hlt
end Go.Proofs.YtneappinkfhjmaaDoor
