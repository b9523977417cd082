/-
  Values that lie in memory, and lists of them; the length and the bytes of an encoding.
-/
import Derived.Test.YtknphfednknajabPutW
namespace Go.Proofs.Ytknphfednknajab
open Go.RowKit

theorem encW_byte (c U : Nat) (S : Int) (bs : List Nat) (hb : ∀ b ∈ bs, b < 256) : ∀ b ∈ encV c U S bs, b < 256 := by
  have happ : ∀ (n : Nat) (l : List Nat), (∀ b ∈ l, b < 256) → ∀ b ∈ enc n ++ l, b < 256 := fun n l hl b h => by
    rcases List.mem_append.1 h with h | h
    · exact enc_byte n b h
    · exact hl b h
  unfold encV encFlag
  repeat' split
  all_goals first
    | exact enc_byte _
    | exact happ _ _ hb
    | exact hb
    | exact happ _ _ (bytesOf_byte _)
    | simp

theorem encW_len (c U : Nat) (S : Int) (bs : List Nat) (hl : bs.length ≤ 300) (hU : U < 18446744073709551616) (hS : -9223372036854775808 ≤ S ∧ S < 9223372036854775808) : (encV c U S bs).length ≤ 1000 := by
  have h1 := enc_len hU
  have h2 := enc_len (zz_lt S hS)
  have h3 := enc_len (v := bs.length) (by omega)
  have h5 := bytesOf_length (maskOf_small (membersOf bs))
  have h4 := enc_len (v := (bytesOf (maskOf (membersOf bs))).length) (by omega)
  unfold encV encFlag
  repeat' split
  all_goals first
    | omega
    | (simp only [List.length_append]; omega)
    | simp

/-- A value that lies in memory at an address: its four cells. -/
structure ValAt (w : World) (g o : Nat) (k U : Nat) (S : Int) (a : Option Addr) (n c : Nat) (bs : List Nat) (B : Nat) : Prop where
  c0 : w.cell? ⟨g, o, none⟩ = some (.int .u8 k)
  c1 : w.cell? ⟨g, o + 1, none⟩ = some (.int .u64 U)
  c2 : w.cell? ⟨g, o + 2, none⟩ = some (.int .i64 S)
  c3 : w.cell? ⟨g, o + 3, none⟩ = some (.slice a n c)
  b : Loose w (.slice a n c) bs B
  byte : ∀ x ∈ bs, x < 256
  hU : U < 18446744073709551616
  hS : -9223372036854775808 ≤ S ∧ S < 9223372036854775808

theorem ValAt.kept {w w' : World} {g o k U : Nat} {S : Int} {a : Option Addr} {n c : Nat} {bs : List Nat} {B : Nat} (h : ValAt w g o k U S a n c bs B) (hk : Kept (fun _ => False) w w') : ValAt w' g o k U S a n c bs B :=
  ⟨(hk.cell (World.block_lt_of_cell? w _ h.c0) (fun h => h)).trans h.c0, (hk.cell (World.block_lt_of_cell? w _ h.c1) (fun h => h)).trans h.c1, (hk.cell (World.block_lt_of_cell? w _ h.c2) (fun h => h)).trans h.c2,
    (hk.cell (World.block_lt_of_cell? w _ h.c3) (fun h => h)).trans h.c3, h.b.kept hk (fun _ _ h => h), h.byte, h.hU, h.hS⟩

/-- A list of values in memory: it is empty, or its elements lie there. -/
def Vals (w : World) (v : Value) (N B : Nat) : Prop :=
  ((∃ a c, v = .slice a 0 c ∧ (a = none → c = 0) ∧ c ≤ 9223372036854775807) ∧ N = 0) ∨
  ∃ g off cap, v = .slice (some ⟨g, off, none⟩) N cap ∧ (N ≤ cap ∧ cap ≤ 9223372036854775807) ∧ ∀ i, i < N → ∃ k U S a n c bs, ValAt w g (off + i * 4) k U S a n c bs B

end Go.Proofs.Ytknphfednknajab
