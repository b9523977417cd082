/-
  A slice of slices of bytes that came in: its elements lie in memory. (As in LbIn, over LB.)
-/
import Derived.Test.YtncieckanngodaaDoorRows
import Derived.Test.YtncieckanngodaaDoorLB
import Derived.Test.YtncieckanngodaaDoorCrcCard
import Derived.Lib.SmallJoins
namespace Go.Proofs.YtncieckanngodaaDoor
open Go.Joins Go.ChangeShapes Go.WideShapes Go.ChangeAt Go.RowKit Go.Deep

theorem cellsBs : Tryd.prog.cellsOf 26 = 1 := by kernel_rfl

/-- A row of bytes at an address where there is room: it reads as its bytes; where there is none it is empty. -/
theorem row_loose {W : World} {x : Addr} {len cap : Nat} {zs : List Int} (hl : len ≤ cap) (hm : cap ≤ maxLen) (hz : zs.length = cap) (hc : ∀ i, i < zs.length → W.cell? (x.add i) = some (.int .u8 (zs.getD i 0))) (hw : ∀ n ∈ zs, (Lit.int .u8 n).wf = true) :
    ∃ xs, Loose W (.slice (some x) len cap) xs W.heap.size ∧ ∀ b ∈ xs, b < 256 := by
  by_cases h0 : cap = 0
  · subst h0
    obtain rfl : len = 0 := by omega
    exact ⟨[], Or.inr ⟨x, rfl, rfl⟩, by simp⟩
  · have h1 := hc 0 (by omega)
    rw [show x.add 0 = x from rfl] at h1
    have hs := World.cell?_spot h1
    have hb := World.block_lt_of_cell? W _ h1
    obtain ⟨g, off, spot⟩ := x
    simp only at hs hb
    subst hs
    have hn : ∀ n ∈ zs, ∃ m : Nat, n = (m : Int) ∧ m < 256 := by
      intro n hn
      have := hw n hn
      simp [Lit.wf, IntKind.min, IntKind.max, IntKind.signed, IntKind.bits] at this
      exact ⟨n.toNat, by omega, by omega⟩
    have hlen : ((zs.take len).map Int.toNat).length = len := by simp; omega
    refine ⟨(zs.take len).map Int.toNat, Or.inl ⟨Or.inr ⟨g, off, cap, by rw [hlen], by omega, hm, hb, fun i hi => ?_⟩, fun j hj => by simp [Value.ownBlock] at hj; omega⟩, ?_⟩
    · rw [hlen] at hi
      have hadd : (⟨g, off, none⟩ : Addr).add i = ⟨g, off + i, none⟩ := by unfold Addr.add; split <;> simp_all
      have := hc i (by omega)
      rw [hadd] at this
      rw [this]
      have hiz : i < zs.length := by omega
      obtain ⟨m, hm1, hm2⟩ := hn (zs.getD i 0) (by simp [List.getD, hiz])
      have h1 : (List.map Int.toNat (List.take len zs)).getD i 0 = (zs.getD i 0).toNat := by
        simp [List.getD, hi, hiz]
      rw [h1, hm1]
      simp
    · intro b hb
      simp only [List.mem_map] at hb
      obtain ⟨n, hn1, rfl⟩ := hb
      obtain ⟨m, rfl, hm2⟩ := hn n (List.mem_of_mem_take hn1)
      simpa using hm2

/-- A slice of bytes in memory: it is loose. -/
theorem loose_of {H : Type} {enc : TypeId × Value → H} {W : World} {u : Value} {fu : Nat} {y : DataW H × List MemPlace} (t : DataW.trod enc Tryd.prog W 0 (fun _ => true) true fu 26 [u] = some y) : ∃ xs, Loose W u xs W.heap.size ∧ ∀ x ∈ xs, x < 256 := by
  rcases open_ints Tryd.underlying26 Tryd.underlying5 (by kernel_rfl) t with ⟨hcs, _⟩ | ⟨x, l, c, zs, hcs, _, hl, hm, hz, _, hcell, hwz⟩
  · injection hcs with hcs
    subst hcs
    exact ⟨[], Or.inl ⟨Or.inl ⟨rfl, rfl⟩, by intro j hj; simp [Value.ownBlock] at hj⟩, by simp⟩
  · injection hcs with hcs
    subst hcs
    exact row_loose hl hm (by simpa using hz) hcell hwz

set_option maxRecDepth 100000 in
theorem lb_in {H : Type} {enc : TypeId × Value → H} {W : World} {base : Nat} {v : Value} {d : DataW H} {p : List MemPlace} (o : Value.okWide Tryd.prog W .any base 22 v) (h : DataW.Trod enc Tryd.prog W 0 (fun _ => true) true 22 v d p) :
    ∃ f F N, LB W v f F N W.heap.size ∧ ∀ a n c, v = .slice a n c → c ≤ 9223372036854775807 := by
  obtain ⟨a, len, cap, rfl⟩ := okWide_slice Tryd.underlying22 o
  obtain ⟨fuel, h⟩ := h
  rcases open_slice Tryd.underlying22 h with ⟨hcs, _⟩ | ⟨x, l, c, m, n, D, Pl, hcs, _, hl, hm, hmm, _, hi⟩
  · simp [Value.cells] at hcs
    obtain ⟨rfl, rfl, rfl⟩ := hcs
    exact ⟨fun _ => .slice none 0 0, fun _ => [], 0, Or.inl ⟨⟨_, _, rfl, fun _ => rfl⟩, rfl⟩, fun a n c e => by cases e; omega⟩
  · simp [Value.cells] at hcs
    obtain ⟨rfl, rfl, rfl⟩ := hcs
    simp only [if_true] at hmm
    subst hmm
    have hel : ∀ i, ∃ u xs, i < len → W.cell? (x.add i) = some u ∧ Loose W u xs W.heap.size ∧ ∀ y ∈ xs, y < 256 := fun i => by
      by_cases hil : i < len
      · obtain ⟨cs', hc, ht⟩ := hi i (by omega)
        rw [cellsBs, Nat.mul_one] at hc
        obtain ⟨_, hcl, hat⟩ := World.cells?_some hc
        match cs', hcl with
        | [u], _ =>
          have hat0 := hat 0 (by simp)
          rw [show (x.add i).add 0 = x.add i from rfl] at hat0
          obtain ⟨xs, h1, h2⟩ := loose_of ht
          exact ⟨u, xs, fun _ => ⟨hat0, h1, h2⟩⟩
      · exact ⟨.slice none 0 0, [], fun h => absurd h hil⟩
    obtain ⟨f, hf⟩ := Classical.axiomOfChoice hel
    obtain ⟨F, hF⟩ := Classical.axiomOfChoice hf
    refine ⟨f, F, len, ?_, fun a n c e => by cases e; unfold maxLen at hm; omega⟩
    by_cases h0 : len = 0
    · subst h0
      exact Or.inl ⟨⟨_, _, rfl, fun h => by cases h⟩, rfl⟩
    · obtain ⟨hx0, _⟩ := hF 0 (by omega)
      rw [show x.add 0 = x from rfl] at hx0
      have hs := World.cell?_spot hx0
      have hb := World.block_lt_of_cell? W _ hx0
      obtain ⟨g, off, spot⟩ := x
      simp only at hs hb
      subst hs
      refine Or.inr ⟨g, off, _, rfl, hl, fun i hil => ?_⟩
      obtain ⟨h1, h2, h3⟩ := hF i hil
      have hadd : (⟨g, off, none⟩ : Addr).add i = ⟨g, off + i, none⟩ := by unfold Addr.add; split <;> simp_all
      rw [hadd] at h1
      exact ⟨h1, hb, h2, h3⟩
end Go.Proofs.YtncieckanngodaaDoor
