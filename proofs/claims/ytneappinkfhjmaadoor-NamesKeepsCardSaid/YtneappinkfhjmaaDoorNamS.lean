/-
  The law's words; the reference's Number, Check, Same; the table's Names.
-/
import Derived.Test.YtneappinkfhjmaaDoorNamR
import Derived.Test.YtneappinkfhjmaaDoorArgIn
namespace Go.Proofs.YtneappinkfhjmaaDoor
open Go.RowKit

theorem Reads.form8 {w : World} {p : Value} {xs : List Nat} (hp : Reads w p xs) : ∃ a c, p = .slice a xs.length c := by
  rcases hp with ⟨rfl, rfl⟩ | ⟨g, off, cap, rfl, _⟩
  · exact ⟨_, _, rfl⟩
  · exact ⟨_, _, rfl⟩
/-- The cell of a byte. -/
theorem Reads.at8 {w : World} {a : Option Addr} {n c k : Nat} {xs : List Nat} (hp : Reads w (.slice a n c) xs) (hk : k < xs.length) :
    ∃ g off, a = some ⟨g, off, none⟩ ∧ xs.length ≤ maxLen ∧ w.cell? ⟨g, off + k, none⟩ = some (.int .u8 (xs.getD k 0 : Nat)) := by
  rcases hp with ⟨h, rfl⟩ | ⟨g, off, cap, h, h1, h2, _, h3⟩
  · simp at hk
  · cases h; exact ⟨g, off, rfl, by omega, h3 k hk⟩

/-- The texts that some numbers stand for. -/
def textsOf (ns : List Nat) : List ByteArray := ns.map fun n => wordL.getD (n % 20) ⟨#[]⟩
theorem textsOf_snoc (ns : List Nat) (n : Nat) : textsOf (ns ++ [n]) = textsOf ns ++ [wordL.getD (n % 20) ⟨#[]⟩] := by simp [textsOf]
theorem textsOf_length (ns : List Nat) : (textsOf ns).length = ns.length := by simp [textsOf]
theorem textsOf_short (ns : List Nat) : ∀ x ∈ textsOf ns, x.size ≤ 13 := by
  intro x hx
  simp only [textsOf, List.mem_map] at hx
  obtain ⟨n, _, rfl⟩ := hx
  have h : wordL.getD (n % 20) ⟨#[]⟩ ∈ wordL := by
    have : n % 20 < wordL.length := by show n % 20 < 20; omega
    simp [List.getD, this]
  exact wordL_short _ h

/-- What the loop of words keeps. -/
structure WdInv (w wr : World) (v : Value) (xs : List ByteArray) : Prop where
  row : wr.ownsRow w.heap.size 9 1 v xs.length (xs.map Value.string)
  kept : Kept (fun _ => False) w wr

set_option maxRecDepth 100000 in
set_option maxHeartbeats 1600000 in
theorem words8_any (a : Option Addr) (l c : Nat) (ns : List Nat) (w : World) (h : InBytes w (.slice a l c) ns) :
    Calls Tryd.prog 14 #[.slice a l c] w fun e w' => ∃ v', e = .returned v' ∧ WdInv w w' v' (textsOf (ns.take 24)) := by
  obtain ⟨i0, hi, hz0, hz1, hz2⟩ := info_parts info_str
  obtain ⟨a', c', hf⟩ := h.reads.form8
  injection hf with e1 e2 e3
  subst e1 e3
  have HR := Lib.hid h.reads; have HB := Lib.hid h.byte; have HL := Lib.hid e2
  clear h e2
  go_enter Tryd.func14, Tryd.ntmps14
  go_wp2_with fail
  go_loopw [3, 4] (fun vv iv wr => ∃ k : Nat, k ≤ l ∧ k ≤ 24 ∧ iv = .int .i64 k ∧ Hid (WdInv w wr vv (textsOf (ns.take k)))) (fun _ iv _ => 24 - (intOf iv).toNat)
  case atStart => exact ⟨0, by omega, by omega, rfl, ⟨World.ownsRow_nil _ _ _ _, Kept.refl _ _⟩⟩
  case round =>
    obtain ⟨k, hkl, hk24, rfl, hinv⟩ := hrel
    have hlk : (textsOf (ns.take k)).length = k := by rw [textsOf_length, List.length_take]; have := HL.out; omega
    have hrow := hinv.out.row
    rw [hlk] at hrow
    obtain ⟨va, vc, hvf⟩ : ∃ va vc, u3 = .slice va k vc := by
      rcases Go.Joins.ownsRow_forms hrow with ⟨h1, h2⟩ | ⟨g', cap, h1⟩
      · exact ⟨_, _, by rw [h1, h2]⟩
      · exact ⟨_, _, h1⟩
    subst hvf
    have HK := Lib.hid hinv.out.kept; have HRO := Lib.hid hrow
    clear hinv hrow hlk
    by_cases hlt : k < l ∧ k < 24
    · obtain ⟨h1, h2⟩ := hlt
      have l1 : (k : Int) < (l : Int) := by omega
      have l0 : (0 : Int) ≤ (k : Int) := by omega
      have l2 : (k : Int) < 24 := by omega
      have hkn : k < ns.length := by have := HL.out; omega
      have hrd := HR.out.kept HK.out (fun _ _ h => h)
      obtain ⟨g, off, rfl, _, hcell⟩ := hrd.at8 (k := k) hkn
      have htk : ns.take (k + 1) = ns.take k ++ [ns.getD k 0] := by rw [List.take_succ_eq_append_getElem hkn]; simp [List.getD, hkn]
      have hnb : ns.getD k 0 < 256 := by
        have : ns.getD k 0 ∈ ns := by simp [List.getD, hkn]
        exact HB.out _ this
      have hts : textsOf (ns.take (k + 1)) = textsOf (ns.take k) ++ [wordL.getD (ns.getD k 0 % 20) ⟨#[]⟩] := by rw [htk, textsOf_snoc]
      have hlen : (textsOf (ns.take k)).length = k := by rw [textsOf_length, List.length_take]; omega
      obtain ⟨n, hn⟩ : ∃ n, n = ns.getD k 0 := ⟨_, rfl⟩
      rw [← hn] at hcell hnb hts
      have HTS := Lib.hid hts; have HLE := Lib.hid hlen
      have hsz := HK.out.size
      clear htk hts hlen hn hrd hkn
      have hm1 : k + 1 ≤ maxLen := by unfold maxLen; omega
      have hm2 : (k + 1) * 16 ≤ 140737488355328 := by omega
      go_wp2_with fail
      refine (word8_any n wr hnb).mono ?_
      rintro e w1 ⟨x, rfl, _, hx, k1⟩
      have HX := Lib.hid hx
      have HO1 := Lib.hid (k1.owns HRO.out (fun _ _ h => h))
      have HK1 := Lib.hid (HK.out.then k1)
      have hsz1 := k1.size
      clear hx k1
      go_wp2_with (at_builtin; refine wpList_append_lies _ rfl _ _ _ rfl w.heap.size 9 i0 _ 1 16 Tryd.underlying26 hi hz0 hz1 hz2 rfl (by omega) (.slice va k vc) k _ rfl (HO1.out.alloc _) ⟨w1.heap.size, 0, none⟩ 1 1 [.string x] rfl rfl (World.news_of_block (cs := #[.string x]) (t := 9) (fr := (0, 0)) (heap_alloc_new w1 _)) (by simp [Value.oneCell']) (by omega) hm1 hm2 (by simp; omega) (w1.heap.size + 1) (by simp) ?_)
      intro gg cap w2 hown2 hgrow hat hgl
      have kp : Kept (blk (.slice va k vc)) w1 w2 := (Kept.alloc (fun _ => False) w1 _).trans (Kept.ofGrown (S := blk (.slice va k vc)) hgrow fun k e => e) (fun _ _ h => h.elim) (fun _ _ h => h)
      have HI2 : Hid (WdInv w w2 (.slice (some ⟨gg, 0, none⟩) (k + 1) cap) (textsOf (ns.take (k + 1)))) := by
        refine ⟨?_, HK1.out.trans kp (fun _ _ h => h) (fun i hi e => by have := (HO1.out.lt i e).1; omega)⟩
        rw [HTS.out, List.length_append, HLE.out, List.map_append, ← HX.out]
        exact hown2
      clear hown2 hgrow hat hgl kp
      go_wp2
      go_roundw
      case rel => exact ⟨k + 1, by omega, by omega, by go_num, HI2⟩
      case measure => simp [intOf]; omega
    · have htk : ns.take 24 = ns.take k := by
        rcases Nat.lt_or_ge k 24 with h | h
        · have := HL.out; rw [List.take_of_length_le (by omega), List.take_of_length_le (by omega)]
        · rw [show k = 24 by omega]
      have hfin : WdInv w wr (.slice va k vc) (textsOf (ns.take 24)) := by
        rw [htk]
        exact ⟨by rw [textsOf_length, List.length_take, show min k ns.length = k by have := HL.out; omega]; exact HRO.out, HK.out⟩
      have HF := Lib.hid hfin
      have hend : (¬ (k : Int) < (l : Int)) ∨ ((k : Int) < (l : Int) ∧ ¬ (k : Int) < 24) := by omega
      clear hfin htk hlt
      rcases hend with hq1 | ⟨hq1, hq2⟩
      all_goals
        go_wp2_with fail
        go_ret
        exact ⟨_, rfl, HF.out⟩

end Go.Proofs.YtneappinkfhjmaaDoor
