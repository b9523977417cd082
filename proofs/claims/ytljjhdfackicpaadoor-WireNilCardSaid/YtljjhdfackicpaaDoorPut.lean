/-
  arbacref02.Put: the encoding of a number.
-/
import Derived.Test.YtljjhdfackicpaaDoorCore
import Derived.Test.YtljjhdfackicpaaDoorNum
import Derived.Test.YtljjhdfackicpaaDoorMake
import Derived.Test.YtljjhdfackicpaaDoorRows
import Derived.Outline
import Derived.WalkLawsBesides
import Derived.WalkSpells
import Derived.IntWalk
import Derived.Laws.BitsAllLaws
namespace Go.Proofs.YtljjhdfackicpaaDoor
open Go.RowKit

theorem info_u8p : (Tryd.prog.info? 5).map (fun i => (i.zero, i.size, i.bytes)) = some (some (.int .u8 0), 1, 1) := by kernel_rfl

set_option maxRecDepth 100000 in
set_option maxHeartbeats 800000 in
theorem put_any (n : Nat) (w : World) (hn : Hid (n < 18446744073709551616)) :
    Calls Tryd.prog 102 #[.int .u64 n] w fun e w' => ∃ v', e = .returned v' ∧ Fresh w' w.heap.size v' (enc n) ∧ Kept (fun _ => False) w w' := by
  obtain ⟨i0, hi, hz0, hz1, hz2⟩ := info_parts info_u8p
  go_enter Tryd.func102, Tryd.ntmps102
  go_wp2_with fail
  go_loopw [0, 3] (fun xv vv wr => ∃ (x : Nat) (ys : List Nat), xv = .int .u64 x ∧ Fresh wr w.heap.size vv ys ∧ ys.length ≤ 100 ∧ 0 < ys.length ∧ x ≤ n ∧ Hid (encHi (x / 128) ++ ys = enc n ∧ ys.length + (encHi (x / 128)).length ≤ 10) ∧ Kept (fun _ => False) w wr) (fun xv _ _ => (intOf xv).toNat)
  case atStart =>
    refine ⟨n, [n % 128], rfl, ⟨owns_lit w w.heap.size _ [n % 128] 1 rfl (by simp [bv]) (Nat.le_refl _) (by simp [maxLen]), by intro k hk; simp [Value.ownBlock] at hk; omega⟩, by simp, by simp, Nat.le_refl _, ⟨rfl, ?_⟩, Kept.alloc _ _ _⟩
    have := enc_len hn.out
    simp [enc] at this ⊢
    omega
  case round =>
    obtain ⟨x, ys, rfl, hf, hy, hy0, hxn, hr, hk⟩ := hrel
    obtain ⟨g, cap, hv, hB, hg⟩ := hf.own.form hy0
    subst hv
    by_cases hx : 128 ≤ x
    · obtain ⟨x2, hx2⟩ : ∃ x2 : Nat, x2 = x / 128 := ⟨_, rfl⟩
      obtain ⟨b, hb⟩ : ∃ b : Nat, b = x2 % 128 + 128 := ⟨_, rfl⟩
      have hw : IntKind.u64.wrap ((x : Int) / 128) = (x2 : Int) := by have := hn.out; rw [IntWalk.u64_in _ (by omega)]; omega
      have hbb : ((x2 : Int) % 128 + 128) = (b : Int) := by omega
      have hxx : x2 < x := by omega
      have hxi : (128 : Int) ≤ (x : Int) := by omega
      have HX2 := Lib.hid hx2; clear hx2
      have HB := Lib.hid hb; clear hb
      have hby : (b : Int) < 256 := by have := HB.out; omega
      have hbs : w.heap.size ≤ (wr.alloc (.cells #[.int .u8 b] 5)).heap.size := by have := hk.size; simp; omega
      have hcells : ∀ j u, (bv ys)[j]? = some u → wr.cell? ((⟨g, 0, none⟩ : Addr).add j) = some u := hf.own.cells rfl
      have hnews : ∀ j u, (bv ys)[j]? = some u → (wr.alloc (.cells #[.int .u8 b] 5)).cell? ((⟨g, 0, none⟩ : Addr).add j) = some u := fun j u hu => by
        have hadd : (⟨g, 0, none⟩ : Addr).add j = ⟨g, j, none⟩ := by unfold Addr.add; split <;> simp_all
        have := hcells j u hu
        rw [hadd] at this ⊢
        rw [World.cell?_alloc_past _ _ _ hg]; exact this
      have HCE := Lib.hid hcells; clear hcells
      have HNE := Lib.hid hnews; clear hnews
      go_wp2_with (at_builtin; refine wpList_append_lies _ rfl _ _ _ rfl w.heap.size 5 i0 _ 1 1 Tryd.underlying48 hi hz0 hz1 hz2 rfl (by omega) _ _ _ rfl (owns_lit wr w.heap.size #[.int .u8 b] [b] 1 rfl rfl hk.size (by simp [maxLen])) ⟨g, 0, none⟩ ys.length cap (bv ys) rfl (by simp [bv_length]) HNE.out (bv_oneCell _) hy0 (by simp [maxLen]; omega) (by simp; omega) hbs (wr.heap.size + 1) (by simp) ?_)
      intro g1 cap1 w1 hown1 hgrow hat hgl
      clear hat hgl
      have HO := Lib.hid hown1; clear hown1
      have HG := Lib.hid hgrow; clear hgrow
      go_wp2
      go_roundw
      case rel =>
        have h2 := hr.out
        rw [← HX2.out, encHi_pos (v := x2) (by have := HX2.out; omega), List.append_assoc, List.singleton_append, ← HB.out] at h2
        refine ⟨x2, b :: ys, rfl, ⟨?_, fun k hk => (HO.out.lt k hk).1⟩, ?_, by simp, by omega, ⟨h2.1, ?_⟩, ?_⟩
        · have := HO.out
          rw [← bv_append] at this
          simpa [Nat.add_comm] using this
        · have := h2.2; simp at this ⊢; omega
        · have := h2.2; simp at this ⊢; omega
        · have k1 := Kept.ofGrown (S := fun k => k = wr.heap.size) HG.out (fun k e => by simp [Value.ownBlock] at e; omega)
          refine (hk.trans (Kept.alloc (fun _ => False) _ _) (fun _ _ h => h) (fun _ _ h => h)).trans k1 (fun _ _ h => h) (fun i hi e => ?_)
          have := hk.size; omega
      case measure => simp [intOf]; omega
    · have hxi : (x : Int) < 128 := by omega
      go_wp2_with fail
      go_ret
      refine ⟨_, rfl, ?_, hk⟩
      have he := hr.out.1
      rw [Nat.div_eq_of_lt (by omega), encHi_zero, List.nil_append] at he
      rw [← he]
      exact hf

end Go.Proofs.YtljjhdfackicpaaDoor
