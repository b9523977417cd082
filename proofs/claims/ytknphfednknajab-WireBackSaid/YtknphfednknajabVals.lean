/-
  A list of values that came in: its elements lie in memory.
-/
import Derived.Test.YtknphfednknajabRows
import Derived.Test.YtknphfednknajabValIn
import Derived.WalkKit
import Derived.ProofKit
import Derived.OpenShut
import Derived.ChangeOld
import Derived.Below
import Derived.Lib.SmallJoins
namespace Go.Proofs.Ytknphfednknajab
open Go.Joins Go.ChangeShapes Go.WideShapes Go.ChangeAt Go.RowKit Go.Deep

theorem cellsV : Try.prog.cellsOf 44 = 4 := by kernel_rfl
theorem cellsA : Try.prog.cellsOf 5 = 1 := by kernel_rfl
theorem cellsB : Try.prog.cellsOf 42 = 1 := by kernel_rfl
theorem cellsC : Try.prog.cellsOf 2 = 1 := by kernel_rfl
theorem cellsD : Try.prog.cellsOf 28 = 1 := by kernel_rfl

/-- A row of bytes at an address where there is room: it reads as its bytes; where there is none it is empty. -/
theorem row_loose {W : World} {x : Addr} {len cap : Nat} {zs : List Int} (hl : len ≤ cap) (hm : cap ≤ maxLen) (hz : zs.length = cap) (hc : ∀ i, i < zs.length → W.cell? (x.add i) = some (.int .u8 (zs.getD i 0))) (hw : ∀ n ∈ zs, (Lit.int .u8 n).wf = true) :
    ∃ xs, Loose W (.slice (some x) len cap) xs W.heap.size ∧ ∀ b ∈ xs, b < 256 := by
  by_cases h0 : cap = 0
  · subst h0
    obtain rfl : len = 0 := by omega
    exact ⟨[], Or.inr ⟨x, rfl, rfl⟩, by simp⟩
  · have h1 := hc 0 (by omega)
    rw [show x.add 0 = x from rfl] at h1
    have hs := World.cell?_spot h1
    have hb := World.block_lt_of_cell? W _ h1
    obtain ⟨g, off, spot⟩ := x
    simp only at hs hb
    subst hs
    have hn : ∀ n ∈ zs, ∃ m : Nat, n = (m : Int) ∧ m < 256 := by
      intro n hn
      have := hw n hn
      simp [Lit.wf, IntKind.min, IntKind.max, IntKind.signed, IntKind.bits] at this
      exact ⟨n.toNat, by omega, by omega⟩
    have hlen : ((zs.take len).map Int.toNat).length = len := by simp; omega
    refine ⟨(zs.take len).map Int.toNat, Or.inl ⟨Or.inr ⟨g, off, cap, by rw [hlen], by omega, hm, hb, fun i hi => ?_⟩, fun j hj => by simp [Value.ownBlock] at hj; omega⟩, ?_⟩
    · rw [hlen] at hi
      have hadd : (⟨g, off, none⟩ : Addr).add i = ⟨g, off + i, none⟩ := by unfold Addr.add; split <;> simp_all
      have := hc i (by omega)
      rw [hadd] at this
      rw [this]
      have hiz : i < zs.length := by omega
      obtain ⟨m, hm1, hm2⟩ := hn (zs.getD i 0) (by simp [List.getD, hiz])
      have h1 : (List.map Int.toNat (List.take len zs)).getD i 0 = (zs.getD i 0).toNat := by
        simp [List.getD, hi, hiz]
      rw [h1, hm1]
      simp
    · intro b hb
      simp only [List.mem_map] at hb
      obtain ⟨n, hn1, rfl⟩ := hb
      obtain ⟨m, rfl, hm2⟩ := hn n (List.mem_of_mem_take hn1)
      simpa using hm2

theorem add_plain (g off n : Nat) : (⟨g, off, none⟩ : Addr).add n = ⟨g, off + n, none⟩ := by unfold Addr.add; split <;> simp_all

theorem vals_of {H : Type} {enc : TypeId × Value → H} {W : World} {a : Option Addr} {len cap : Nat} {d : DataW H} {p : List MemPlace} {fuel : Nat} (h : DataW.trod enc Try.prog W 0 (fun _ => true) true fuel 41 [.slice a len cap] = some (d, p)) :
    Vals W (.slice a len cap) len W.heap.size := by
  rcases open_slice Try.underlying41 h with ⟨hcs, _⟩ | ⟨x, l, c, m, n, D, Pl, hcs, _, hl, hm, hmm, _, hi⟩
  · injection hcs with hcs
    injection hcs with e1 e2 e3
    subst e1 e2 e3
    exact Or.inl ⟨⟨_, _, rfl, fun _ => rfl, by omega⟩, rfl⟩
  · injection hcs with hcs
    injection hcs with e1 e2 e3
    subst e1 e2 e3
    simp only [if_true] at hmm
    subst hmm
    have hel : ∀ i, i < len → ∃ x0 x1 x2 x3 fu y0 y1 y2 y3, W.cell? ((x.add (i * 4)).add 0) = some x0 ∧ W.cell? ((x.add (i * 4)).add 1) = some x1 ∧ W.cell? ((x.add (i * 4)).add 2) = some x2 ∧ W.cell? ((x.add (i * 4)).add 3) = some x3 ∧
        DataW.trod enc Try.prog W 0 (fun _ => true) true fu 5 [x0] = some y0 ∧ DataW.trod enc Try.prog W 0 (fun _ => true) true fu 42 [x1] = some y1 ∧ DataW.trod enc Try.prog W 0 (fun _ => true) true fu 2 [x2] = some y2 ∧ DataW.trod enc Try.prog W 0 (fun _ => true) true fu 28 [x3] = some y3 := by
      intro i hil
      obtain ⟨cs', hc, ht⟩ := hi i (by omega)
      rw [cellsV] at hc
      obtain ⟨_, hcl, hat⟩ := World.cells?_some hc
      obtain ⟨y0, y1, y2, y3, fu, _, hlen, t0, t1, t2, t3⟩ := trod_struct4 Try.underlying44 ht
      rw [cellsV] at hlen
      match cs', hlen with
      | [x0, x1, x2, x3], _ =>
        refine ⟨x0, x1, x2, x3, fu, y0, y1, y2, y3, hat 0 (by omega), hat 1 (by omega), hat 2 (by omega), hat 3 (by omega), ?_, ?_, ?_, ?_⟩
        · simpa [cellsA] using t0
        · simpa [cellsB] using t1
        · simpa [cellsC] using t2
        · simpa [cellsD] using t3
    by_cases h0 : len = 0
    · subst h0
      exact Or.inl ⟨⟨_, _, rfl, (fun h => by cases h), (by unfold maxLen at hm; omega)⟩, rfl⟩
    · obtain ⟨x0, _, _, _, _, _, _, _, _, hx0, _⟩ := hel 0 (by omega)
      rw [show (x.add (0 * 4)).add 0 = x from rfl] at hx0
      have hs := World.cell?_spot hx0
      obtain ⟨g, off, spot⟩ := x
      simp only at hs
      subst hs
      refine Or.inr ⟨g, off, _, rfl, ⟨hl, by unfold maxLen at hm; omega⟩, fun i hil => ?_⟩
      obtain ⟨x0, x1, x2, x3, fu, y0, y1, y2, y3, c0, c1, c2, c3, t0, t1, t2, t3⟩ := hel i hil
      rw [add_plain, add_plain] at c0 c1 c2 c3
      obtain ⟨i0, e0, _, wk⟩ := DataW.trod_int Try.underlying5 t0
      obtain ⟨i1, e1, _, wU⟩ := DataW.trod_int Try.underlying42 t1
      obtain ⟨i2, e2, _, wS⟩ := DataW.trod_int Try.underlying2 t2
      injection e0 with e0; injection e1 with e1; injection e2 with e2
      subst e0 e1 e2
      simp [Lit.wf, IntKind.min, IntKind.max, IntKind.signed, IntKind.bits] at wk wU wS
      obtain ⟨kn, rfl⟩ := Int.eq_ofNat_of_zero_le (show 0 ≤ i0 by omega)
      obtain ⟨Un, rfl⟩ := Int.eq_ofNat_of_zero_le (show 0 ≤ i1 by omega)
      obtain ⟨a2, l2, c2', hv2, bs, hb, hby⟩ : ∃ a2 l2 c2', x3 = .slice a2 l2 c2' ∧ ∃ bs, Loose W (.slice a2 l2 c2') bs W.heap.size ∧ ∀ b ∈ bs, b < 256 := by
        rcases open_ints Try.underlying28 Try.underlying5 (by kernel_rfl) t3 with ⟨hcs, _⟩ | ⟨x, l, c, zs, hcs, _, hl, hm, hz, _, hcell, hwz⟩
        · injection hcs with hcs
          exact ⟨_, _, _, hcs, [], Or.inl ⟨Or.inl ⟨rfl, rfl⟩, by intro j hj; simp [Value.ownBlock] at hj⟩, by simp⟩
        · injection hcs with hcs
          exact ⟨_, _, _, hcs, row_loose hl hm (by simpa using hz) hcell hwz⟩
      subst hv2
      exact ⟨kn, Un, i2, a2, l2, c2', bs, c0, c1, c2, c3, hb, hby, by omega, by omega⟩

end Go.Proofs.Ytknphfednknajab
