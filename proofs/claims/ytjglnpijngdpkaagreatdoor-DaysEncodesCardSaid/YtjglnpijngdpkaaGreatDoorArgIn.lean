import Derived.Test.YtjglnpijngdpkaaGreatDoorCore
import Derived.Test.YtjglnpijngdpkaaGreatDoorRows
import Derived.Outline
import Derived.WalkLawsBesides
import Derived.WalkSpells
import Derived.BigQuiet
import Derived.IntWalk
import Derived.ProofKit
/-
  A slice of bytes that came in as an argument: it reads as bytes.
-/
namespace Go.Proofs.YtjglnpijngdpkaaGreatDoor
open Go.RowKit

/-- A slice that came in is nil, or lies in memory. -/
theorem okWide_at {P : Program} {W : World} {base : Nat} {t e : TypeId} {a : Addr} {len cap : Nat} (ht : P.underlying t = some (.slice e)) (h : Value.okWide P W .any base t (.slice (some a) len cap)) :
    a.spot = none ∧ a.block < W.heap.size := by
  simp only [Value.okWide, ht, Cell.okWide, Cell.ok] at h
  obtain ⟨_, _, h⟩ := h
  obtain ⟨_, hs, row, cells, hsh, _⟩ := h
  refine ⟨hs, ?_⟩
  by_cases hb : a.block < W.heap.size
  · exact hb
  · exfalso
    unfold World.shape? at hsh
    rw [Array.getElem?_eq_none (by omega)] at hsh
    simp at hsh

/-- An argument of bytes. -/
structure InBytes (w : World) (v : Value) (xs : List Nat) : Prop where
  reads : Reads w v xs
  byte : ∀ b ∈ xs, b < 256

theorem in_bytes {P : Program} {W : World} {base : Nat} {t e : TypeId} {a : Option Addr} {len cap : Nat} {zs : List Int} (ht : P.underlying t = some (.slice e)) (h : Value.okWide P W .any base t (.slice a len cap))
    (hr : (a = none ∧ len = 0 ∧ cap = 0 ∧ zs = []) ∨ ∃ x, a = some x ∧ len ≤ cap ∧ cap ≤ maxLen ∧ zs.length = cap ∧ (∀ i, i < zs.length → W.cell? (x.add i) = some (.int .u8 (zs.getD i 0))) ∧ ∀ n ∈ zs, (Lit.int .u8 n).wf = true) :
    ∃ xs, InBytes W (.slice a len cap) xs := by
  rcases hr with ⟨rfl, rfl, rfl, rfl⟩ | ⟨x, rfl, hl, hm, hz, hc, hw⟩
  · exact ⟨[], Or.inl ⟨rfl, rfl⟩, by simp⟩
  · obtain ⟨hs, hb⟩ := okWide_at ht h
    obtain ⟨g, off, spot⟩ := x
    simp only at hs hb
    subst hs
    have hn : ∀ n ∈ zs, ∃ m : Nat, n = (m : Int) ∧ m < 256 := by
      intro n hn
      have := hw n hn
      simp [Lit.wf, IntKind.min, IntKind.max, IntKind.signed, IntKind.bits] at this
      exact ⟨n.toNat, by omega, by omega⟩
    have hlen : ((zs.take len).map Int.toNat).length = len := by simp; omega
    refine ⟨(zs.take len).map Int.toNat, Or.inr ⟨g, off, cap, by rw [hlen], by omega, hm, hb, fun i hi => ?_⟩, ?_⟩
    · rw [hlen] at hi
      have hadd : (⟨g, off, none⟩ : Addr).add i = ⟨g, off + i, none⟩ := by unfold Addr.add; split <;> simp_all
      have := hc i (by omega)
      rw [hadd] at this
      rw [this]
      have hiz : i < zs.length := by omega
      obtain ⟨m, hm1, hm2⟩ := hn (zs.getD i 0) (by simp [List.getD, hiz])
      have h1 : (List.map Int.toNat (List.take len zs)).getD i 0 = (zs.getD i 0).toNat := by
        simp [List.getD, hi, hiz]
      rw [h1, hm1]
      simp
    · intro b hb
      simp only [List.mem_map] at hb
      obtain ⟨n, hn1, rfl⟩ := hb
      obtain ⟨m, rfl, hm2⟩ := hn n (List.mem_of_mem_take hn1)
      simpa using hm2

theorem InBytes.kept {S : Nat → Prop} {a b : World} {v : Value} {xs : List Nat} (h : InBytes a v xs) (hk : Kept S a b) (hn : ∀ k, v.ownBlock = some k → ¬ S k) : InBytes b v xs := ⟨h.reads.kept hk hn, h.byte⟩

end Go.Proofs.YtjglnpijngdpkaaGreatDoor
