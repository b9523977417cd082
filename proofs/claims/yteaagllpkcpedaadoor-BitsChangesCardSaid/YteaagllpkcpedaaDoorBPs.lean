/-
  What bits.Parse calls: strings.Trim, strings.FieldsSeq, strconv.Atoi; what it answers, in plain words.
-/
import Derived.Test.YteaagllpkcpedaaDoorBFs
import Derived.Test.YteaagllpkcpedaaDoorBTxM
namespace Go.Proofs.YteaagllpkcpedaaDoor
open Go.RowKit Go.Shelf

/-- The text without the braces at its ends. -/
def trimB (s : ByteArray) : ByteArray := if s.size = 0 then s else ⟨(Lib.trimS s.data.toList [123, 125]).toArray⟩
theorem trimB_size (s : ByteArray) : (trimB s).size ≤ s.size := by
  unfold trimB
  split
  · exact Nat.le_refl _
  · have h1 : ∀ l cs : List UInt8, (Lib.trimLeftS l cs).length ≤ l.length := fun l cs => List.Sublist.length_le (List.dropWhile_sublist _)
    have h2 : ∀ l cs : List UInt8, (Lib.trimRightS l cs).length ≤ l.length := fun l cs => by
      unfold Lib.trimRightS
      rw [List.length_reverse]
      exact Nat.le_trans (List.Sublist.length_le (List.dropWhile_sublist _)) (by simp)
    have := Nat.le_trans (h1 (Lib.trimRightS s.data.toList [123, 125]) [123, 125]) (h2 s.data.toList [123, 125])
    show (Lib.trimS s.data.toList [123, 125]).toArray.size ≤ s.data.size
    rw [List.size_toArray]
    simpa [Lib.trimS] using this

theorem asc_zero : ∀ w, (zeroValue (laysTrim_ren.t 116)).run Tryd.prog w = .ok (.agg (Array.replicate 256 (.bool false))) w := fun w => by kernel_rfl
theorem sh_Trim (s : ByteArray) (w : World) (hs : s.size ≤ 1000000) :
    Calls Tryd.prog 50 #[.string s, .string ⟨#[123, 125]⟩] w fun e w' => e = .returned (.string (trimB s)) ∧ Kept (fun _ => False) w w' := by
  unfold trimB
  by_cases h0 : s.size = 0
  · rw [if_pos h0]
    exact (Any.strings_Trim_empty laysTrim s _ w (Or.inl h0)).mono fun _ _ h => ⟨h.1, by rw [h.2]; exact Kept.refl _ _⟩
  · rw [if_neg h0]
    refine (Any.strings_Trim_set laysTrim asc_zero (by kernel_rfl) s ⟨#[123, 125]⟩ w (by decide) (by omega) (by omega) (by decide) (fun j b hj => ?_)).mono ?_
    · have : b ∈ [(123 : UInt8), 125] := List.mem_of_getElem? hj
      simp at this
      rcases this with rfl | rfl <;> decide
    · rintro e w' ⟨rfl, q, rfl⟩
      exact ⟨rfl, ((Kept.alloc _ _ _).then (Kept.alloc _ _ _)).drewN q⟩

theorem bytesWorld_kept (w : World) (e : TypeId) (t : ByteArray) : Kept (fun _ => False) w (Lib.bytesWorld w e t) := Kept.ofBelow _ (Lib.bytesWorld_below w e t)

/-- strconv.Atoi of a number. -/
theorem sh_Atoi_ok (s : ByteArray) (v : Int) (h : Lib.atoiAll s.data.toList = .ok v) (hs : s.size ≤ 1000000) (w : World) :
    Calls Tryd.prog 51 #[.string s] w fun e w' => e = .returned (.tuple #[.int .i64 v, .nilIface]) ∧ Kept (fun _ => False) w w' := by
  refine (Any.strconv_Atoi_ok laysAtoi s (by omega) v h w).mono ?_
  rintro e w' ⟨he, rfl | ⟨t, rfl⟩⟩
  · exact ⟨he, Kept.refl _ _⟩
  · exact ⟨he, bytesWorld_kept _ _ _⟩
/-- Of anything else. -/
theorem sh_Atoi_no (s : ByteArray) (h : ∀ v, Lib.atoiAll s.data.toList ≠ .ok v) (hs : s.size ≤ 1000000) (w : World) (hL : Libs w) :
    Calls Tryd.prog 51 #[.string s] w fun e w' => (∃ (v : Int) (N : Nat), e = .returned (.tuple #[.int .i64 v, .iface 107 (.pointer (some ⟨N, 0, none⟩))])) ∧ Kept (fun _ => False) w w' := by
  rcases ha : Lib.atoiAll s.data.toList with v | _ | _
  · exact absurd ha (h v)
  · skip
    obtain ⟨ev, h1, h2⟩ := hL.esyn
    refine (Any.strconv_Atoi_syntax laysAtoi s (by omega) ha ev w h1 h2).mono ?_
    rintro e w' ⟨N, rfl, _, _, hb⟩
    exact ⟨⟨_, N, rfl⟩, Kept.ofBelow _ hb⟩
  · skip
    obtain ⟨ev, h1, h2⟩ := hL.eran
    refine (Any.strconv_Atoi_range laysAtoi s (by omega) ha ev w h1 h2).mono ?_
    rintro e w' ⟨N, rfl, _, _, hb⟩
    exact ⟨⟨_, N, rfl⟩, Kept.ofBelow _ hb⟩

/-- The number that a field says, if it can be a member. -/
def fieldV (x : ByteArray) : Option Int := match Lib.atoiAll x.data.toList with
  | .ok v => if 0 ≤ v ∧ v ≤ 4095 then some v else none
  | _ => none
def valsOf (fs : List ByteArray) : List Int := fs.filterMap fieldV
/-- The set that a text says. -/
def parseS (s : ByteArray) : Option Nat :=
  if (fieldsS (trimB s)).all (fun x => (fieldV x).isSome) && (textS (maskOf (valsOf (fieldsS (trimB s)))) == s.data.toList) then some (maskOf (valsOf (fieldsS (trimB s)))) else none
theorem parseS_text {s : ByteArray} {M : Nat} (h : parseS s = some M) : textS M = s.data.toList ∧ Small M := by
  unfold parseS at h
  split at h
  · rename_i hc
    injection h with h
    subst h
    simp only [Bool.and_eq_true, beq_iff_eq] at hc
    exact ⟨hc.2, maskOf_small _⟩
  · cases h

/-- The iterator's contract, for whoever keeps what it reads. -/
theorem fs_stops (S : Nat → Prop) (Bm M' B : Nat) (s : ByteArray) (w : World) (hA : FldAt Bm w B s) (hs : s.size ≤ 1000000) (hB : B < M') (hB2 : ¬ S B) (hm : Bm ≤ M') (hS : ∀ k, k < Bm → ¬ S k) :
    SeqStopsK Fence.wide 2 Tryd.prog 60 #[.pointer (some ⟨B, 0, none⟩)] (fun x : Fld => #[Value.string x.1]) (KeepM S M') (fun ys => ys.map (·.1) = fieldsS s) (fun pre => pre.map (·.1) <+: fieldsS s) s.size w := by
  intro l J Jx W hW hJ hJx hY h0
  have hBlt := World.block_lt_of_cell? w _ hA.c0
  refine (fs1_in Bm l B s (KeepM S M') J Jx W hs hY (fun a b hk ha => ?_) (fun pre a b _ hj hk => hJ pre a b none hj (kept_grown hk) (fun r e => by cases e)) (fun a b hk => hk.size) (hA.on (Kept.ofBelow _ hW)) h0)
  have h1 := World.block_lt_of_cell? a _ ha.c0
  exact ⟨(World.cell?_of_block (w := a) (hk.block B hB h1 hB2)).trans ha.c0, Nat.le_trans ha.le hk.size, ha.libs.on ⟨hk.os, hk.tape, hk.output, hk.size, fun k h2 => hk.block k (by omega) (Nat.lt_of_lt_of_le h2 ha.le) (hS k h2)⟩⟩
end Go.Proofs.YteaagllpkcpedaaDoor
