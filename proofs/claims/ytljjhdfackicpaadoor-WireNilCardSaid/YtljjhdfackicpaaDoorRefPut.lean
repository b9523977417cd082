/-
  arbacref02: PutBytes, PutFlag, SetBytes, PutSet.
-/
import Derived.Test.YtljjhdfackicpaaDoorPut
import Derived.Test.YtljjhdfackicpaaDoorSetML
import Derived.Test.YtljjhdfackicpaaDoorOfN
import Derived.Test.YtljjhdfackicpaaDoorWriter
import Derived.Test.YtljjhdfackicpaaDoorStrW
namespace Go.Proofs.YtljjhdfackicpaaDoor
open Go.RowKit

set_option maxRecDepth 100000 in
set_option maxHeartbeats 800000 in
theorem putbytes_any (p : Value) (ys : List Nat) (w : World) (hp : Reads w p ys) (hl : ys.length ≤ 100000000000000) :
    Calls Tryd.prog 104 #[p] w fun e w' => ∃ v', e = .returned v' ∧ Fresh w' w.heap.size v' (enc ys.length ++ ys) ∧ Kept (fun _ => False) w w' := by
  obtain ⟨i0, hi, hz0, hz1, hz2⟩ := info_parts info_u8
  obtain ⟨N, hN⟩ : ∃ N, N = ys.length := ⟨_, rfl⟩
  have hNl : N < 18446744073709551616 := by omega
  have hel := enc_len hNl
  have hep := enc_pos N
  rw [← hN]
  have hwN : IntKind.u64.wrap (N : Int) = (N : Int) := IntWalk.u64_in _ (by omega)
  have HNL := Lib.hid hNl
  have hNm : N ≤ 100000000000000 := by omega
  have HN := Lib.hid hN; clear hN
  rcases hp with ⟨rfl, rfl⟩ | ⟨g, off, cap, rfl, h1, h2, h3, h4⟩
  · have hN0 : N = 0 := by rw [HN.out]; rfl
    subst hN0
    clear hwN
    go_enter Tryd.func104, Tryd.ntmps104
    go_wp2_with fail
    refine (put_any 0 w HNL).mono ?_
    rintro e w1 ⟨v1, rfl, hf, hk⟩
    have HF := Lib.hid hf; clear hf
    obtain ⟨va, vc, hvf⟩ := own_form HF.out.own
    obtain ⟨L, hL⟩ : ∃ L, L = (enc 0).length := ⟨_, rfl⟩
    rw [← hL] at hvf
    have HL := Lib.hid hL; clear hL
    subst hvf
    go_wp2_with (at_builtin; refine wpList_append_own_none rfl _ _ _ rfl w.heap.size 5 i0 1 Tryd.underlying48 hi _ _ _ rfl HF.out.own rfl ?_)
    go_wp2
    go_ret
    refine ⟨_, rfl, ?_, hk⟩
    rw [List.append_nil]
    exact HF.out
  · rw [← HN.out] at h1 h4 ⊢
    have hnews : ∀ j u, (bv ys)[j]? = some u → w.cell? ((⟨g, off, none⟩ : Addr).add j) = some u := fun j u hu => by
      have hadd : (⟨g, off, none⟩ : Addr).add j = ⟨g, off + j, none⟩ := by unfold Addr.add; split <;> simp_all
      have hj : j < ys.length := by
        have := (List.getElem?_eq_some_iff.1 hu).1
        rwa [bv_length] at this
      rw [hadd, h4 j (by rw [HN.out]; exact hj), ← bv_getD ys j hj]; exact hu
    have HNE := Lib.hid hnews; clear hnews h4
    go_enter Tryd.func104, Tryd.ntmps104
    go_wp2_with fail
    refine (put_any N w HNL).mono ?_
    rintro e w1 ⟨v1, rfl, hf, hk⟩
    have HF := Lib.hid hf; clear hf
    have hsz := hk.size
    have HN1 : Hid (∀ j u, (bv ys)[j]? = some u → w1.cell? ((⟨g, off, none⟩ : Addr).add j) = some u) := fun j u hu => by
      have hadd : ((⟨g, off, none⟩ : Addr).add j).block = g := by unfold Addr.add; split <;> simp_all
      rw [hk.cell (p := (⟨g, off, none⟩ : Addr).add j) (by rw [hadd]; exact h3) (fun h => h)]
      exact HNE.out j u hu
    go_wp2_with (at_builtin; refine wpList_append_own_at _ rfl _ _ _ rfl w.heap.size 5 i0 _ 1 1 Tryd.underlying48 hi hz0 hz1 hz2 rfl (by omega) _ _ _ rfl HF.out.own ⟨g, off, none⟩ N cap (bv ys) rfl (by simp [bv_length, ← HN.out]) HN1.out (bv_oneCell _) (by unfold maxLen; omega) (by omega) (by omega) ?_)
    intro v' w2 hown hgrow _ hat
    have HO := Lib.hid hown; clear hown
    have hk2 : Kept (fun _ => False) w w2 := hk.trans (Kept.ofGrown (S := fun k => w.heap.size ≤ k) hgrow (fun k e => HF.out.block k e)) (fun _ _ h => h) (fun i hi e => by omega)
    clear hgrow hat
    go_wp2
    go_ret
    refine ⟨_, rfl, ⟨?_, fun k hk => (HO.out.lt k hk).1⟩, hk2⟩
    have := HO.out
    rw [← bv_append] at this
    rw [List.length_append, ← HN.out]
    exact this

set_option maxRecDepth 100000 in
set_option maxHeartbeats 400000 in
theorem putflag_any (b : Bool) (w : World) :
    Calls Tryd.prog 107 #[.bool b] w fun e w' => ∃ v', e = .returned v' ∧ Fresh w' w.heap.size v' (encFlag b) ∧ Kept (fun _ => False) w w' := by
  cases b
  all_goals
    go_enter Tryd.func107, Tryd.ntmps107
    go_wp2_with fail
    go_ret
  · exact ⟨_, rfl, ⟨owns_lit w w.heap.size _ [0] 1 rfl (by simp [bv]) (Nat.le_refl _) (by simp [maxLen]), by intro k hk; simp [Value.ownBlock] at hk; omega⟩, Kept.alloc _ _ _⟩
  · exact ⟨_, rfl, ⟨owns_lit w w.heap.size _ [1] 1 rfl (by simp [bv]) (Nat.le_refl _) (by simp [maxLen]), by intro k hk; simp [Value.ownBlock] at hk; omega⟩, Kept.alloc _ _ _⟩

end Go.Proofs.YtljjhdfackicpaaDoor
