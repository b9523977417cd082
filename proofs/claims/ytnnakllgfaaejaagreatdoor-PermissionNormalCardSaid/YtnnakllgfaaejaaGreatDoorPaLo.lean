/-
  Slices of bytes that lie loose in memory, lists of them, three of them: as they come in.
-/
import Derived.Test.YtnnakllgfaaejaaGreatDoorArgIn
import Derived.OpenShut
import Derived.Lib.SmallJoins
import Derived.Laws.IdiomArrays
import Derived.Deep.AppendLies
namespace Go.Proofs.YtnnakllgfaaejaaGreatDoor
open Go.Joins Go.ChangeShapes Go.WideShapes Go.ChangeAt Go.RowKit Go.Deep

/-- It reads as these bytes, below block B; or it is empty, at whatever address. -/
def Loose (w : World) (v : Value) (xs : List Nat) (B : Nat) : Prop :=
  (Reads w v xs ∧ ∀ j, v.ownBlock = some j → j < B) ∨ ∃ x, v = .slice (some x) 0 0 ∧ xs = []

theorem Loose.kept {S : Nat → Prop} {a b : World} {v : Value} {xs : List Nat} {B : Nat} (h : Loose a v xs B) (hk : Kept S a b) (hS : ∀ k, k < B → ¬ S k) : Loose b v xs B := by
  rcases h with ⟨h, hb⟩ | h
  · exact Or.inl ⟨h.kept hk fun k hk => hS k (hb k hk), hb⟩
  · exact Or.inr h

theorem Loose.form {w : World} {v : Value} {xs : List Nat} {B : Nat} (h : Loose w v xs B) : ∃ a c, v = .slice a xs.length c := by
  rcases h with ⟨h, _⟩ | ⟨x, rfl, rfl⟩
  · rcases h with ⟨rfl, rfl⟩ | ⟨g, off, cap, rfl, _⟩
    · exact ⟨_, _, rfl⟩
    · exact ⟨_, _, rfl⟩
  · exact ⟨_, _, rfl⟩

theorem Loose.at {w : World} {a : Option Addr} {n c k : Nat} {xs : List Nat} {B : Nat} (h : Loose w (.slice a n c) xs B) (hk : k < xs.length) :
    ∃ g off, a = some ⟨g, off, none⟩ ∧ w.cell? ⟨g, off + k, none⟩ = some (.int .u8 (xs.getD k 0 : Nat)) := by
  rcases h with ⟨⟨_, rfl⟩ | ⟨g, off, cap, e, h1, h2, h3, h4⟩, _⟩ | ⟨_, _, rfl⟩
  · simp at hk
  · cases e; exact ⟨g, off, rfl, h4 k hk⟩
  · simp at hk

theorem Loose.le {w : World} {v : Value} {xs : List Nat} {B : Nat} (h : Loose w v xs B) : xs.length ≤ maxLen := by
  rcases h with ⟨⟨_, rfl⟩ | ⟨g, off, cap, e, h1, h2, h3, h4⟩, _⟩ | ⟨_, _, rfl⟩
  · simp
  · omega
  · simp

/-- The bytes of a call's argument. -/
structure LooseB (w : World) (v : Value) (xs : List Nat) : Prop where
  loose : Loose w v xs w.heap.size
  byte : ∀ x ∈ xs, x < 256
  len : xs.length ≤ maxLen

/-- A list of slices of bytes in memory: it is empty, or its elements lie there. -/
def LB (w : World) (v : Value) (f : Nat → Value) (F : Nat → List Nat) (N B : Nat) : Prop :=
  ((∃ a c, v = .slice a 0 c ∧ (a = none → c = 0)) ∧ N = 0) ∨
  ∃ g off cap, v = .slice (some ⟨g, off, none⟩) N cap ∧ N ≤ cap ∧ ∀ i, i < N → w.cell? ⟨g, off + i, none⟩ = some (f i) ∧ g < B ∧ Loose w (f i) (F i) B ∧ ∀ x ∈ F i, x < 256

theorem LB.kept {a b : World} {v : Value} {f : Nat → Value} {F : Nat → List Nat} {N B : Nat} (h : LB a v f F N B) (hk : Kept (fun _ => False) a b) (hB : B ≤ a.heap.size) : LB b v f F N B := by
  rcases h with h | ⟨g, off, cap, rfl, hc, h⟩
  · exact Or.inl h
  · exact Or.inr ⟨g, off, cap, rfl, hc, fun i hi => by
      obtain ⟨h1, h2, h3, h4⟩ := h i hi
      exact ⟨(hk.cell (p := ⟨g, off + i, none⟩) (by simp; omega) (fun h => h)).trans h1, h2, h3.kept hk (fun _ _ h => h), h4⟩⟩

theorem LB.form {w : World} {v : Value} {f : Nat → Value} {F : Nat → List Nat} {N B : Nat} (h : LB w v f F N B) : ∃ a c, v = .slice a N c ∧ N ≤ c := by
  rcases h with ⟨⟨a, c, rfl, _⟩, rfl⟩ | ⟨g, off, cap, rfl, hc, h⟩
  · exact ⟨a, c, rfl, Nat.zero_le _⟩
  · exact ⟨_, _, rfl, hc⟩

theorem LB.at {w : World} {a : Option Addr} {n c : Nat} {f : Nat → Value} {F : Nat → List Nat} {N B k : Nat} (h : LB w (.slice a n c) f F N B) (hk : k < N) :
    ∃ g off, a = some ⟨g, off, none⟩ ∧ g < B ∧ w.cell? ⟨g, off + k, none⟩ = some (f k) ∧ Loose w (f k) (F k) B ∧ ∀ x ∈ F k, x < 256 := by
  rcases h with ⟨_, rfl⟩ | ⟨g, off, cap, h, _, h3⟩
  · omega
  · cases h
    obtain ⟨h1, h2, h4, h5⟩ := h3 k hk
    exact ⟨g, off, rfl, h2, h1, h4, h5⟩

theorem cellsBs : Tryz.prog.cellsOf 23 = 1 := by kernel_rfl

/-- A row of bytes at an address where there is room: it reads as its bytes; where there is none it is empty. -/
theorem row_loose {W : World} {x : Addr} {len cap : Nat} {zs : List Int} (hl : len ≤ cap) (hm : cap ≤ maxLen) (hz : zs.length = cap) (hc : ∀ i, i < zs.length → W.cell? (x.add i) = some (.int .u8 (zs.getD i 0))) (hw : ∀ n ∈ zs, (Lit.int .u8 n).wf = true) :
    ∃ xs, Loose W (.slice (some x) len cap) xs W.heap.size ∧ ∀ b ∈ xs, b < 256 := by
  by_cases h0 : cap = 0
  · subst h0
    obtain rfl : len = 0 := by omega
    exact ⟨[], Or.inr ⟨x, rfl, rfl⟩, by simp⟩
  · have h1 := hc 0 (by omega)
    rw [show x.add 0 = x from rfl] at h1
    have hs := World.cell?_spot h1
    have hb := World.block_lt_of_cell? W _ h1
    obtain ⟨g, off, spot⟩ := x
    simp only at hs hb
    subst hs
    have hn : ∀ n ∈ zs, ∃ m : Nat, n = (m : Int) ∧ m < 256 := by
      intro n hn
      have := hw n hn
      simp [Lit.wf, IntKind.min, IntKind.max, IntKind.signed, IntKind.bits] at this
      exact ⟨n.toNat, by omega, by omega⟩
    have hlen : ((zs.take len).map Int.toNat).length = len := by simp; omega
    refine ⟨(zs.take len).map Int.toNat, Or.inl ⟨Or.inr ⟨g, off, cap, by rw [hlen], by omega, hm, hb, fun i hi => ?_⟩, fun j hj => by simp [Value.ownBlock] at hj; omega⟩, ?_⟩
    · rw [hlen] at hi
      have hadd : (⟨g, off, none⟩ : Addr).add i = ⟨g, off + i, none⟩ := by unfold Addr.add; split <;> simp_all
      have := hc i (by omega)
      rw [hadd] at this
      rw [this]
      have hiz : i < zs.length := by omega
      obtain ⟨m, hm1, hm2⟩ := hn (zs.getD i 0) (by simp [List.getD, hiz])
      have h1 : (List.map Int.toNat (List.take len zs)).getD i 0 = (zs.getD i 0).toNat := by
        simp [List.getD, hi, hiz]
      rw [h1, hm1]
      simp
    · intro b hb
      simp only [List.mem_map] at hb
      obtain ⟨n, hn1, rfl⟩ := hb
      obtain ⟨m, rfl, hm2⟩ := hn n (List.mem_of_mem_take hn1)
      simpa using hm2

/-- A slice of bytes in memory: it is loose. -/
theorem loose_of {H : Type} {enc : TypeId × Value → H} {W : World} {u : Value} {fu : Nat} {y : DataW H × List MemPlace} (t : DataW.trod enc Tryz.prog W 0 (fun _ => true) true fu 23 [u] = some y) : ∃ xs, Loose W u xs W.heap.size ∧ ∀ x ∈ xs, x < 256 := by
  rcases open_ints Tryz.underlying23 Tryz.underlying5 (by kernel_rfl) t with ⟨hcs, _⟩ | ⟨x, l, c, zs, hcs, _, hl, hm, hz, _, hcell, hwz⟩
  · injection hcs with hcs
    subst hcs
    exact ⟨[], Or.inl ⟨Or.inl ⟨rfl, rfl⟩, by intro j hj; simp [Value.ownBlock] at hj⟩, by simp⟩
  · injection hcs with hcs
    subst hcs
    exact row_loose hl hm (by simpa using hz) hcell hwz

end Go.Proofs.YtnnakllgfaaejaaGreatDoor
