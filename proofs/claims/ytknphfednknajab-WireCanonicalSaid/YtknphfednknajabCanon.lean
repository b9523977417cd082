/-
  arbaclaw02.WireCanonical returns true for any bytes and any kinds; nothing that was there is changed.
-/
import Derived.Test.YtknphfednknajabArg
import Derived.Test.YtknphfednknajabAwake
import Derived.Test.YtknphfednknajabTake
import Derived.Deep.RegionHeld3
namespace Go.Proofs.Ytknphfednknajab
open Go.RowKit

theorem rd_form {w : World} {rb : Nat} {v : Value} {xs : List Nat} {err : Int} (h : Rd w rb v xs err) : ∃ a c, v = .slice a xs.length c := by
  rcases h.reads with ⟨h, h2⟩ | ⟨g, off, cap, h, _⟩
  · exact ⟨none, 0, by rw [h, h2]; rfl⟩
  · exact ⟨_, _, h⟩

/-- What lay there before reads before as it reads behind. -/
theorem Reads.back {a b : World} {v : Value} {xs : List Nat} (h : Reads b v xs) (hk : Kept (fun _ => False) a b) (hb : ∀ k, v.ownBlock = some k → k < a.heap.size) : Reads a v xs := by
  rcases h with h | ⟨g, off, cap, rfl, h1, h2, h3, h4⟩
  · exact Or.inl h
  · have hg := hb g rfl
    exact Or.inr ⟨g, off, cap, rfl, h1, h2, hg, fun i hi => (hk.cell (p := ⟨g, off + i, none⟩) hg (fun h => h)).symm.trans (h4 i hi)⟩

theorem Reads.front {w : World} {a : Option Addr} {N c : Nat} {xs ys left : List Nat} (h : Reads w (.slice a N c) xs) (he : xs = ys ++ left) : Reads w (.slice a ys.length c) ys := by
  rcases h with ⟨h, h2⟩ | ⟨g, off, cap, h, h1, h2, h3, h4⟩
  · injection h with e1 e2 e3
    subst h2
    have hy : ys = [] := by cases ys <;> simp_all
    subst hy
    exact Or.inl ⟨by rw [e1, e3]; rfl, rfl⟩
  · injection h with e1 e2 e3
    subst e1 e3
    have := Reads.take ys.length (Or.inr ⟨g, off, c, rfl, h1, h2, h3, h4⟩ : Reads w (.slice (some ⟨g, off, none⟩) xs.length c) xs) (by rw [he]; simp)
    rw [he, List.take_left] at this
    exact this

/-- What the loop keeps. -/
def CanonInv (w wr : World) (rb wb : Nat) (xs : List Nat) : Prop :=
  ∃ rv wv left ys err, RW wr rb wb rv wv w.heap.size left ys err ∧ xs = ys ++ left ∧ Kept (fun _ => False) w wr

theorem CanonInv.next {w wr w1 : World} {rb wb : Nat} {xs left ys : List Nat} (hx : xs = ys ++ left) (hk : Kept (fun _ => False) w wr) (h : TakeRes wr w1 rb wb w.heap.size left ys) : CanonInv w w1 rb wb xs := by
  obtain ⟨v', u', zs, left', err', hrw, hz, hk'⟩ := h
  refine ⟨v', u', left', ys ++ zs, err', hrw, by rw [hx, hz, List.append_assoc], hk.trans hk' (fun _ _ h => h) fun i hi e => by omega⟩

/-- The head of the loop: 'len' of the kinds. -/
theorem reads_form {w : World} {v : Value} {xs : List Nat} (h : Reads w v xs) : ∃ a c, v = .slice a xs.length c ∧ ∀ i, i < xs.length → ∃ g off, a = some ⟨g, off, none⟩ ∧ g < w.heap.size ∧ w.cell? ⟨g, off + i, none⟩ = some (.int .u8 (xs.getD i 0 : Nat)) := by
  rcases h with ⟨h, h2⟩ | ⟨g, off, cap, h, h1, h3, h4, h5⟩
  · exact ⟨none, 0, by rw [h, h2]; rfl, fun i hi => by rw [h2] at hi; simp at hi⟩
  · exact ⟨_, _, h, fun i hi => ⟨g, off, rfl, h4, h5 i hi⟩⟩

set_option maxRecDepth 100000 in
set_option maxHeartbeats 3200000 in
theorem canon_any (v kv : Value) (ps ks : List Nat) (w : World) (hp : InBytes w v ps) (hk : Reads w kv ks) :
    Calls Try.prog 4 #[v, kv] w fun e w' => e = .returned (.bool true) ∧ Below w.heap.size w w' := by
  have HP := Lib.hid hp; clear hp
  obtain ⟨xs, hxs⟩ : ∃ xs, xs = ps.take 300 := ⟨_, rfl⟩
  have hxl : xs.length ≤ 300 := by rw [hxs]; simp; omega
  have hxb : ∀ b ∈ xs, b < 256 := fun b hb => HP.out.byte b (by rw [hxs] at hb; exact List.mem_of_mem_take hb)
  have HXB := Lib.hid hxb; have HXS := Lib.hid hxs; clear hxb hxs
  have hplt := HP.out.reads.lt
  obtain ⟨ka, kc, rfl, hkc⟩ := reads_form hk
  have HKC := Lib.hid hkc; clear hkc hk
  obtain ⟨K, hK⟩ : ∃ K, K = ks.length := ⟨_, rfl⟩
  rw [← hK]
  have HK := Lib.hid hK; clear hK
  go_enter Try.func4, Try.ntmps4
  go_wp2_with fail
  refine (awake_any w).mono ?_
  rintro e w0 ⟨rfl, hk0⟩
  have hr0 := HP.out.reads.kept hk0 (fun _ _ h => h)
  go_wp2_with fail
  refine (short_any w0 v ps hr0).mono ?_
  rintro e w1 ⟨p, rfl, hrp, hpo, hw1⟩
  subst hw1
  rw [← HXS.out] at hrp
  obtain ⟨pa, pc, hpf, _⟩ := reads_form hrp
  obtain ⟨N, hN⟩ : ∃ N, N = xs.length := ⟨_, rfl⟩
  rw [← hN] at hpf
  have HN := Lib.hid hN; clear hN
  subst hpf
  have hpw : Reads w (.slice pa N pc) xs := hrp.back hk0 (fun k hk => hplt k (by rw [← hpo]; exact hk))
  have HPW := Lib.hid hpw; clear hpw
  clear hr0
  go_wp2_with fail
  refine (newReader_any w0 _ xs hrp (by omega)).mono ?_
  rintro e w2 ⟨rb, rv, rfl, hrd2, hrb2, hrv2, hk2⟩
  have hs2 := hk2.size
  have hrlt := hrd2.lt
  have hrvlt := hrd2.reads.lt
  go_wp2_with fail
  refine (newWriter_any w2).mono ?_
  rintro e w3 ⟨rfl, hw3⟩
  have hk3 : Kept (fun _ => False) w2 w3 := by rw [hw3]; exact Kept.alloc _ _ _
  have hs0 := hk0.size
  have hwr3 : Wr w3 w2.heap.size (.slice none 0 0) w.heap.size [] := by rw [hw3]; exact wr_new w2 w.heap.size (by omega)
  have hrd3 := hrd2.kept hk3 (fun h => h) (fun _ _ h => h)
  have hinv : CanonInv w w3 rb w2.heap.size xs := by
    refine ⟨rv, _, xs, [], 0, ⟨hrd3, hwr3, by omega, by simp [Value.ownBlock], fun e => by have := hrvlt _ e; omega, fun k _ => by simp [Value.ownBlock], by omega, HXB.out⟩, by simp, (hk0.then hk2).then hk3⟩
  have HI := Lib.hid hinv
  clear hinv hrd3 hwr3 hw3 hrd2 hk3 hk2 hk0 hrlt hrvlt hrv2 hrp
  go_wp2_with fail
  go_loopw [7] (fun iv wr => ∃ k : Nat, k ≤ 40 ∧ iv = .int .i64 k ∧ Hid (CanonInv w wr rb w2.heap.size xs)) (fun iv _ => 40 - (intOf iv).toNat)
  case atStart => exact ⟨0, by omega, rfl, HI⟩
  case round =>
    obtain ⟨k, hk, rfl, hi⟩ := hrel
    by_cases hlt : k < K ∧ k < 40
    · have hl1 : (k : Int) < (K : Int) := by omega
      have hl2 : (k : Int) < 40 := by omega
      obtain ⟨g, off, rfl, hg, hcell⟩ := HKC.out k (by rw [← HK.out]; omega)
      obtain ⟨rv, wv, left, ys, err, hrw, hxe, hkw⟩ := hi.out
      have hcr := (hkw.cell (p := ⟨g, off + k, none⟩) hg (fun h => h)).trans hcell
      generalize ks.getD k 0 = kk at hcr
      have hyl : ys.length ≤ 300 := by have := congrArg List.length hxe; simp at this; omega
      clear hcell
      go_wp2_with fail
      refine (takes_any wr rb w2.heap.size kk rv wv w.heap.size left ys err hrw hyl).mono ?_
      rintro e w4 ⟨rfl, hres⟩
      have HI4 := Lib.hid (CanonInv.next hxe hkw hres)
      clear hres hrw hkw hcr
      go_wp2_with fail
      go_roundw
      case rel => exact ⟨k + 1, by omega, by simp, HI4⟩
      case measure => simp [intOf]; omega
    · obtain ⟨rv, wv, left, ys, err, hrw, hxe, hkw⟩ := hi.out
      have hyl : ys.length + left.length = N := by have := congrArg List.length hxe; simp at this; rw [HN.out]; omega
      have hN300 : N ≤ 300 := by rw [HN.out]; exact hxl
      have hyb : ∀ b ∈ ys, b < 256 := fun b hb => HXB.out b (by rw [hxe]; exact List.mem_append_left _ hb)
      have hpr : Reads wr (.slice pa N pc) xs := HPW.out.kept hkw (fun _ _ h => h)
      have hpy := hpr.front hxe
      have hyl2 : ys.length ≤ 300 := by omega
      obtain ⟨ra, rc, hrf⟩ := rd_form hrw.rd
      have c0 := hrw.rd.cell0
      rw [hrf] at c0
      have hform : (pa = none ∧ N = 0 ∧ pc = 0) ∨ ∃ g off, pa = some ⟨g, off, none⟩ ∧ N ≤ pc ∧ pc ≤ 9223372036854775807 := by
        rcases hpr with ⟨h, _⟩ | ⟨g, off, cap, h, h1, h2, _⟩
        · injection h with e1 e2 e3; exact Or.inl ⟨e1, e2, e3⟩
        · injection h with e1 e2 e3
          refine Or.inr ⟨g, off, e1, by omega, ?_⟩
          unfold maxLen at h2; omega
      obtain ⟨L, hL⟩ : ∃ L, L = left.length := ⟨_, rfl⟩
      rw [← hL] at c0 hyl
      obtain ⟨Y, hY⟩ : ∃ Y, Y = ys.length := ⟨_, rfl⟩
      rw [← hY] at hpy hyl
      have hsub : IntKind.i64.wrap ((N : Int) - (L : Int)) = (Y : Int) := by rw [IntWalk.i64_in _ (by omega)]; omega
      have HRW := Lib.hid hrw; have HKW := Lib.hid hkw; have HPY := Lib.hid hpy; have HYB := Lib.hid hyb; have HY2 := Lib.hid hyl2
      have C0 := Lib.hid c0; have HL := Lib.hid hL; have HY := Lib.hid hY; have HXE := Lib.hid hxe
      clear hrw hkw hpy c0 hL hY hpr hrf hxe hi HI hyb hyl2
      have hY0 : (0 : Int) ≤ (Y : Int) := by omega
      have hYN : (Y : Int) ≤ (N : Int) := by omega
      have hcase : (¬ (k : Int) < (K : Int)) ∨ ((k : Int) < (K : Int) ∧ ¬ (k : Int) < 40) := by omega
      rcases hform with ⟨rfl, hN0, rfl⟩ | ⟨g, off, rfl, hNc, hcm⟩
      · have hY00 : Y = 0 := by omega
        have hL0 : L = 0 := by omega
        subst hN0 hY00 hL0
        rcases hcase with hc | ⟨hc, hc2⟩
        all_goals
          go_wp2_with fail
          refine (left_any wr rb ra 0 rc C0.out).mono ?_
          rintro e w' ⟨rfl, rfl⟩
          go_wp2_with fail
          go_region_held3 (fun _ => True) (trivial)
            ((first | (go_at_call 11; refine (out_any wr.drew w2.heap.size wv ys (HRW.out.wr.drew).reads (by have := HY2.out; omega) (HRW.out.wr.drew).cell).mono ?_; rintro e w5 ⟨q, rfl, hf5, hk5⟩; have HF5 := Lib.hid hf5; have HK5 := Lib.hid hk5; clear hf5 hk5) | (go_at_call 14; refine (same_any w5 q _ ys ys HF5.out.reads ((show Reads wr.drew _ ys from HPY.out).kept HK5.out (fun _ _ h => h)) HYB.out HYB.out).mono ?_; rw [show decide (ys = ys) = true by simp]; rintro e w6 ⟨rfl, rfl⟩)))
          go_wp2_with fail
          go_ret
          exact ⟨rfl, (HKW.out.drew.then HK5.out).below (Nat.le_refl _) (fun _ h => h.elim)⟩
      · have hYp : (Y : Int) ≤ (pc : Int) := by omega
        have hYp2 : Y ≤ pc := by omega
        have hYN2 : Y ≤ N := by omega
        rcases hcase with hc | ⟨hc, hc2⟩
        all_goals
          go_wp2_with fail
          refine (left_any wr rb ra L rc C0.out).mono ?_
          rintro e w' ⟨rfl, rfl⟩
          go_wp2_with fail
          go_region_held3 (fun _ => True) (trivial)
            ((first | (go_at_call 11; refine (out_any wr.drew w2.heap.size wv ys (HRW.out.wr.drew).reads (by have := HY2.out; omega) (HRW.out.wr.drew).cell).mono ?_; rintro e w5 ⟨q, rfl, hf5, hk5⟩; have HF5 := Lib.hid hf5; have HK5 := Lib.hid hk5; clear hf5 hk5) | (go_at_call 14; refine (same_any w5 q _ ys ys HF5.out.reads ((show Reads wr.drew _ ys from HPY.out).kept HK5.out (fun _ _ h => h)) HYB.out HYB.out).mono ?_; rw [show decide (ys = ys) = true by simp]; rintro e w6 ⟨rfl, rfl⟩)))
          go_wp2_with fail
          go_ret
          exact ⟨rfl, (HKW.out.drew.then HK5.out).below (Nat.le_refl _) (fun _ h => h.elim)⟩

end Go.Proofs.Ytknphfednknajab
