/-
  Lists of names that can be added one after the other; their encodings tell them apart; names.Table.Equal.
-/
import Derived.Test.YtneappinkfhjmaaDoorNamO
import Derived.BigQuiet
namespace Go.Proofs.YtneappinkfhjmaaDoor
open Go.RowKit

theorem strB_byte8 (s : ByteArray) : ∀ b ∈ strB s, b < 256 := by
  intro b hb
  simp only [strB, List.mem_map] at hb
  obtain ⟨x, _, rfl⟩ := hb
  exact x.toNat_lt
theorem strOf_strB8 (s : ByteArray) : strOf (strB s) = s := by
  have h := strOf_bytes (strB_byte8 s)
  have h2 : (strOf (strB s)).data.toList.map UInt8.toNat = s.data.toList.map UInt8.toNat := h
  have h3 : (strOf (strB s)).data.toList = s.data.toList := by
    apply List.ext_getElem
    · have := congrArg List.length h2; simpa using this
    · intro i h1 h4
      have := congrArg (fun l => l[i]?) h2
      simp only [List.getElem?_map, List.getElem?_eq_getElem h1, List.getElem?_eq_getElem h4, Option.map_some, Option.some.injEq] at this
      exact UInt8.toNat_inj.1 this
  exact ByteArray.ext (Array.ext' h3)
theorem strB_inj8 {a b : ByteArray} (h : strB a = strB b) : a = b := by rw [← strOf_strB8 a, h, strOf_strB8]

theorem ofS_snoc {most : Int} {s : ByteArray} : ∀ xs zs : List ByteArray, ofS most zs xs = (0, zs ++ xs) → refS (zs ++ xs) s most = 0 → ofS most zs (xs ++ [s]) = (0, zs ++ (xs ++ [s]))
  | [], zs, _, hr => by
    rw [List.append_nil] at hr
    rw [List.nil_append, ofS, if_pos hr, ofS]
  | y :: ys, zs, h, hr => by
    rw [ofS] at h
    by_cases h0 : refS zs y most = 0
    · rw [if_pos h0] at h
      have h1 : zs ++ (y :: ys) = (zs ++ [y]) ++ ys := by simp
      rw [h1] at h hr
      rw [List.cons_append, ofS, if_pos h0, ofS_snoc ys (zs ++ [y]) h hr]
      simp
    · rw [if_neg h0] at h
      exact absurd (congrArg Prod.fst h) h0

/-- Names that can be added one after the other. -/
structure Good (xs : List ByteArray) : Prop where
  of : ofS 100 [] xs = (0, xs)
  short : ∀ x ∈ xs, x.size ≤ 12
theorem Good.nil : Good [] := ⟨rfl, by simp⟩
theorem Good.snoc {xs : List ByteArray} {s : ByteArray} (h : Good xs) (hr : refS xs s 100 = 0) : Good (xs ++ [s]) := by
  refine ⟨?_, fun x hx => ?_⟩
  · have := ofS_snoc xs [] (by rw [List.nil_append]; exact h.of) (by rw [List.nil_append]; exact hr)
    rwa [List.nil_append] at this
  · rcases List.mem_append.1 hx with h1 | h1
    · exact h.short x h1
    · rw [List.mem_singleton] at h1
      subst h1
      exact (refS_ok hr).1

theorem encL_byte : ∀ (xs : List ByteArray), ∀ b ∈ encL xs, b < 256
  | [], b, hb => by simp [encL] at hb
  | x :: xs, b, hb => by
    rw [encL, List.mem_append, List.mem_append] at hb
    rcases hb with (hb | hb) | hb
    · exact enc_byte _ b hb
    · exact strB_byte8 x b hb
    · exact encL_byte xs b hb
theorem enc8_byte (xs : List ByteArray) : ∀ b ∈ enc xs.length ++ encL xs, b < 256 := fun b hb => (List.mem_append.1 hb).elim (enc_byte _ b) (encL_byte xs b)

theorem encL_inj : ∀ xs ys : List ByteArray, (∀ x ∈ xs, x.size ≤ 12) → (∀ y ∈ ys, y.size ≤ 12) → xs.length = ys.length → encL xs = encL ys → xs = ys
  | [], [], _, _, _, _ => rfl
  | [], _ :: _, _, _, h, _ => by simp at h
  | _ :: _, [], _, _, h, _ => by simp at h
  | x :: xs, y :: ys, hx, hy, hl, h => by
    have h1 := hx x List.mem_cons_self
    have h2 := hy y List.mem_cons_self
    rw [encL, encL, enc_small _ (by omega), enc_small _ (by omega)] at h
    simp only [List.cons_append, List.nil_append, List.cons.injEq] at h
    obtain ⟨e, h⟩ := h
    have hlen : (strB x).length = (strB y).length := by rw [strB_length, strB_length]; exact e
    obtain ⟨e1, e2⟩ := List.append_inj h hlen
    rw [strB_inj8 e1, encL_inj xs ys (fun z hz => hx z (List.mem_cons_of_mem _ hz)) (fun z hz => hy z (List.mem_cons_of_mem _ hz)) (by simpa using hl) e2]
theorem enc8_inj {xs ys : List ByteArray} (hx : ∀ x ∈ xs, x.size ≤ 12) (hy : ∀ y ∈ ys, y.size ≤ 12) (h1 : xs.length ≤ 100) (h2 : ys.length ≤ 100) (h : enc xs.length ++ encL xs = enc ys.length ++ encL ys) : xs = ys := by
  rw [enc_small _ (by omega), enc_small _ (by omega)] at h
  simp only [List.cons_append, List.nil_append, List.cons.injEq] at h
  exact encL_inj xs ys hx hy h.1 h.2

/-- The string of a table's bytes. -/
def str8 (xs : List ByteArray) : ByteArray := strOfNums ((enc xs.length ++ encL xs).map fun n : Nat => (n : Int))
theorem str8_eq {xs ys : List ByteArray} (hx : ∀ x ∈ xs, x.size ≤ 12) (hy : ∀ y ∈ ys, y.size ≤ 12) (h1 : xs.length ≤ 100) (h2 : ys.length ≤ 100) : ((str8 xs).toList == (str8 ys).toList) = decide (xs = ys) := by
  rw [str_eq, Bool.eq_iff_iff, decide_eq_true_iff, decide_eq_true_iff]
  refine ⟨fun h => ?_, fun h => by rw [h]⟩
  exact enc8_inj hx hy h1 h2 ((str_inj (enc8_byte xs) (enc8_byte ys)).1 h)

theorem drewN_add8 (w : World) (j m : Nat) : (w.drewN j).drewN m = w.drewN (j + m) := by simp [World.drewN, Nat.add_assoc]

end Go.Proofs.YtneappinkfhjmaaDoor
