/-
  arbac/crc: Frame, Next.
-/
import Derived.Test.YtncieckanngodaaDoorCrcB
import Derived.Laws.MakeOwn
namespace Go.Proofs.YtncieckanngodaaDoor
open Go.RowKit

theorem quiet_left {P : Program} {f : FuncId} {args : Array Value} {w : World} {n : Nat} {v : Value}
    (h : Calls P f args (w.drewN n) fun e w' => e = .returned v ∧ w.drewN n = w') : Calls P f args (w.drewN n) fun e w'' => e = .returned v ∧ ∃ m, w'' = w.drewN m :=
  h.mono fun _ _ ⟨he, hm⟩ => ⟨he, n, hm.symm⟩

/-- Behind calls that changed a fresh row alone. -/
theorem BStep.then {w0 w w' : World} {v v' : Value} {B : Nat} {xs : List Nat} (h : Kept (fun _ => False) w0 w) (hf : Fresh w B v xs) (hB : w0.heap.size ≤ B) (hs : BStep w w' v v') : Kept (fun _ => False) w0 w' :=
  h.trans hs.kept (fun _ _ h => h) (fun i hi hb => by have := hf.block i hb; omega)

set_option maxRecDepth 100000 in
set_option maxHeartbeats 400000 in
theorem frame_long (p : Value) (xs : List Nat) (w : World) (hp : Reads w p xs) (hl : 9000 < xs.length) :
    Calls Tryd.prog 27 #[p] w fun e w' => e = .returned (.tuple #[.slice none 0 0, .int .i64 3]) ∧ w = w' := by
  obtain ⟨a, c, rfl⟩ := hp.form
  clear hp
  have hl' : (9000 : Int) < xs.length := by omega
  go_enter Tryd.func27, Tryd.ntmps27
  go_wp2_with fail
  go_ret2
  exact ⟨rfl, rfl⟩

set_option maxRecDepth 100000 in
set_option maxHeartbeats 1600000 in
theorem frame_any (p : Value) (xs : List Nat) (w : World) (hp : Reads w p xs) (hb : ∀ x ∈ xs, x < 256) (hl : xs.length ≤ 9000) (hT : Tab w) :
    Calls Tryd.prog 27 #[p] w fun e w' => ∃ v', e = .returned (.tuple #[v', .int .i64 0]) ∧ Fresh w' w.heap.size v' (frameS xs) ∧ Kept (fun _ => False) w w' := by
  obtain ⟨i0, hi, hz0, hz1, hz2⟩ := info_parts info_u8c
  obtain ⟨w1, hmk, hown, hgrow⟩ := run_make_own (P := Tryd.prog) w w.heap.size 26 5 i0 (.int .u8 0) 1 Tryd.underlying26 hi hz0 hz1 .i64 .i64 (8 + xs.length) (by rw [hz2]; omega) (by unfold maxLen; omega) (Nat.le_refl _)
  rw [show ((8 + xs.length : Nat) : Int) = 8 + (xs.length : Int) by omega] at hmk
  have hf1 : Fresh w1 w.heap.size (.slice (some ⟨w.heap.size, 0, none⟩) 0 (8 + xs.length)) [] := ⟨hown, fun k hk => (hown.lt k hk).1⟩
  have hk1 : Kept (fun _ => False) w w1 := Kept.ofGrown hgrow (fun k e => by cases e)
  obtain ⟨a, c, hform⟩ := hp.form
  have hlt := hp.lt
  have HP := Lib.hid hp; have HF1 := Lib.hid hf1; have HT := Lib.hid hT; have HB := Lib.hid hb
  clear hp hf1 hT hb hown hgrow
  have hl' : (xs.length : Int) ≤ 9000 := by omega
  have hw : IntKind.u32.wrap (xs.length : Int) = (xs.length : Int) := IntWalk.u32_in _ (by omega)
  subst hform
  go_enter Tryd.func27, Tryd.ntmps27
  go_wp2_with fail
  refine (appendField_any _ [] xs.length w1 w.heap.size HF1.out (by omega) (by simp) hk1.size).mono ?_
  rintro e w2 ⟨v2, rfl, hf2, hs2⟩
  rw [List.nil_append] at hf2
  have hk2 := BStep.then hk1 HF1.out (Nat.le_refl _) hs2
  have HF2 := Lib.hid hf2; clear hf2 hs2
  go_wp2_with fail
  refine (sum_any _ _ w2 HF2.out.reads (le4_byte _) (HT.out.kept hk2 (fun h => h))).mono ?_
  rintro e w3 ⟨rfl, rfl⟩
  go_wp2_with fail
  refine (update_any (crcS (le4 xs.length)) _ xs w2 (crcU_lt (by omega) (le4_byte _)) (HP.out.kept hk2 (fun _ _ h => h)) HB.out (HT.out.kept hk2 (fun h => h))).mono ?_
  rintro e w3 ⟨rfl, rfl⟩
  have hcl : crcU (crcS (le4 xs.length)) xs < 2 ^ 32 := crcU_lt (crcU_lt (by omega) (le4_byte _)) HB.out
  obtain ⟨q, hq⟩ : ∃ q, q = crcU (crcS (le4 xs.length)) xs := ⟨_, rfl⟩
  rw [← hq] at hcl ⊢
  have HQ := Lib.hid hq; clear hq
  go_wp2_with fail
  refine (appendField_any _ _ q w2 w.heap.size HF2.out hcl (by simp [le4]) hk2.size).mono ?_
  rintro e w3 ⟨v3, rfl, hf3, hs3⟩
  have hk3 := BStep.then hk2 HF2.out (Nat.le_refl _) hs3
  have hp3 := HP.out.kept hk3 (fun _ _ h => h)
  have hfr : frameS xs = (le4 xs.length ++ le4 q) ++ xs := by rw [frameS, HQ.out, List.append_assoc]
  have HFR := Lib.hid hfr; clear hfr
  obtain ⟨va, vc, hvf⟩ := Reads.form hf3.reads
  have hvl : (le4 xs.length ++ le4 q).length = 8 := by simp [le4]
  have ho3 := hf3.own
  rw [hvl] at hvf ho3
  have HO3 := Lib.hid ho3; have HV := Lib.hid hvl
  generalize le4 xs.length ++ le4 q = zs at HFR HV HO3
  clear hf3 hs3 HF2 HF1 HQ hvl ho3
  subst hvf
  rcases hp3 with ⟨h1, h2⟩ | ⟨g, off, cap, h1, h2, h3, h4, h5⟩
  · have hx0 : xs.length = 0 := by rw [h2]; rfl
    have hva : a = none ∧ c = 0 := by
      rw [hx0] at h1; cases h1; exact ⟨rfl, rfl⟩
    obtain ⟨rfl, rfl⟩ := hva
    rw [hx0]
    go_wp2_with (at_builtin; refine wpList_append_own_none rfl _ _ _ rfl w.heap.size 5 i0 1 Tryd.underlying26 hi _ _ _ rfl HO3.out rfl ?_)
    go_wp2
    go_ret2
    refine ⟨_, rfl, ?_, hk3⟩
    rw [HFR.out, h2, List.append_nil]
    exact ⟨by rw [HV.out]; exact HO3.out, fun k hk => (HO3.out.lt k hk).1⟩
  · cases h1
    have hnews : ∀ j u, (bv xs)[j]? = some u → w3.cell? ((⟨g, off, none⟩ : Addr).add j) = some u := fun j u hu => by
      have hadd : (⟨g, off, none⟩ : Addr).add j = ⟨g, off + j, none⟩ := by unfold Addr.add; split <;> simp_all
      have hj : j < xs.length := by
        have := (List.getElem?_eq_some_iff.1 hu).1
        rwa [bv_length] at this
      rw [hadd, h5 j hj, ← bv_at8 xs j hj]; exact hu
    have HNE := Lib.hid hnews; clear hnews h5
    have hs3' := hk3.size
    go_wp2_with (at_builtin; refine wpList_append_own_at _ rfl _ _ _ rfl w.heap.size 5 i0 _ 1 1 Tryd.underlying26 hi hz0 hz1 hz2 rfl (by omega) _ _ _ rfl HO3.out ⟨g, off, none⟩ xs.length c (bv xs) rfl (by simp [bv_length]) HNE.out (bv_oneCell _) (by unfold maxLen; omega) (by omega) hs3' ?_)
    intro v4 w4 hown4 hgrow4 _ hat4
    have hk4 : Kept (fun _ => False) w w4 := hk3.trans (Kept.ofGrown (S := blk (.slice va 8 vc)) hgrow4 fun k e => e) (fun _ _ h => h) (fun i hi hb => by have := (HO3.out.lt i hb).1; omega)
    have hf4 : Fresh w4 w.heap.size v4 (frameS xs) := by
      rw [HFR.out]
      exact ⟨by rw [List.length_append, HV.out, bv_append]; exact hown4, fun k hk => (hown4.lt k hk).1⟩
    have HF4 := Lib.hid hf4; clear hf4 hown4 hgrow4 hat4
    go_wp2
    go_ret2
    exact ⟨_, rfl, HF4.out, hk4⟩

/-- What Next answers. -/
def NextRes (w w' : World) (xs : List Nat) (e : Ending) : Prop :=
  (nextS xs = 0 ∧ e = .returned (.tuple #[.slice none 0 0, .int .i64 0, .bool false]) ∧ Kept (fun _ => False) w w') ∨
  (nextS xs ≠ 0 ∧ ∃ v', e = .returned (.tuple #[v', .int .i64 (nextS xs : Nat), .bool true]) ∧ Fresh w' w.heap.size v' ((xs.drop 8).take (de4 xs)) ∧ Kept (fun _ => False) w w')

set_option maxRecDepth 100000 in
set_option maxHeartbeats 400000 in
theorem next_short (p : Value) (xs : List Nat) (w : World) (hp : Reads w p xs) (hl : xs.length < 8) :
    Calls Tryd.prog 45 #[p] w fun e w' => NextRes w w' xs e := by
  obtain ⟨a, c, rfl⟩ := hp.form
  clear hp
  have hn : nextS xs = 0 := by unfold nextS; rw [if_pos hl]
  have HN := Lib.hid hn; clear hn
  have hl' : (xs.length : Int) < 8 := by omega
  go_enter Tryd.func45, Tryd.ntmps45
  go_wp2_with fail
  go_ret3
  exact Or.inl ⟨HN.out, rfl, Kept.refl _ _⟩

/-- What Next has before it, as facts of every later world. -/
structure NextAt (w : World) (g off o2 n cap n4 c4 c8 : Nat) (xs : List Nat) : Prop where
  r0 : Reads w (.slice (some ⟨g, off, none⟩) n cap) xs
  r4 : Reads w (.slice (some ⟨g, off + 4, none⟩) n4 c4) (xs.drop 4)
  t4 : Reads w (.slice (some ⟨g, off, none⟩) 4 cap) (xs.take 4)
  r8 : ∀ m, m + 8 ≤ n → Reads w (.slice (some ⟨g, o2, none⟩) m c8) ((xs.drop 8).take m)
  byte : ∀ x ∈ xs, x < 256
  tab : Tab w
  len : xs.length = n
  l8 : 8 ≤ n

theorem NextAt.kept {w w' : World} {g off o2 n cap n4 c4 c8 : Nat} {xs : List Nat} (h : NextAt w g off o2 n cap n4 c4 c8 xs) (hk : Kept (fun _ => False) w w') : NextAt w' g off o2 n cap n4 c4 c8 xs :=
  ⟨h.r0.kept hk (fun _ _ h => h), h.r4.kept hk (fun _ _ h => h), h.t4.kept hk (fun _ _ h => h), fun m hm => (h.r8 m hm).kept hk (fun _ _ h => h), h.byte, h.tab.kept hk (fun h => h), h.len, h.l8⟩

theorem NextAt.mk' {w : World} {g off cap o2 : Nat} {xs : List Nat} (hp : Reads w (.slice (some ⟨g, off, none⟩) xs.length cap) xs) (hb : ∀ x ∈ xs, x < 256) (hT : Tab w) (hl : 8 ≤ xs.length)
    (ho2 : (cap = 8 → o2 = off) ∧ (cap ≠ 8 → o2 = off + 8)) (hcap : xs.length ≤ cap) (hg : g < w.heap.size) : NextAt w g off o2 xs.length cap (xs.length - 4) (cap - 4) (cap - 8) xs := by
  have r8 : Reads w (.slice (some ⟨g, o2, none⟩) (xs.length - 8) (cap - 8)) (xs.drop 8) := by
    by_cases h : cap = 8
    · rw [ho2.1 h]
      have h0 : xs.drop 8 = [] := List.drop_of_length_le (by omega)
      rw [h0]
      exact Or.inr ⟨g, off, cap - 8, by rw [show xs.length - 8 = 0 by omega]; rfl, by simp, by rw [h]; unfold maxLen; omega, hg, fun i hi => by simp at hi⟩
    · rw [ho2.2 h]; exact Reads.drop 8 hp (by omega)
  have l8 : (xs.drop 8).length = xs.length - 8 := by simp
  exact ⟨hp, Reads.drop 4 hp (by omega), Reads.take 4 hp (by omega), fun n hn => by
    rw [← l8] at r8; exact Reads.takeV n r8 (by omega), hb, hT, rfl, hl⟩

theorem own_base {w : World} {B B' : Nat} {e : TypeId} {size n : Nat} {v : Value} {xs : List Value} (h : w.ownsRow B e size v n xs) (hB : B' ≤ B) : w.ownsRow B' e size v n xs := by
  refine ⟨h.1, ?_⟩
  rcases h.2 with h2 | ⟨g, cap, cur, rfl, hb, r⟩
  · exact Or.inl h2
  · exact Or.inr ⟨g, cap, cur, rfl, Nat.le_trans hB hb, r⟩
theorem Fresh.base {w : World} {B B' : Nat} {v : Value} {xs : List Nat} (h : Fresh w B v xs) (hB : B' ≤ B) : Fresh w B' v xs :=
  ⟨own_base h.own hB, fun k hk => Nat.le_trans hB (h.block k hk)⟩

set_option maxRecDepth 100000 in
set_option maxHeartbeats 1600000 in
theorem next8 (xs : List Nat) (w : World) (g off  : Nat) (h : NextAt w g off off 8 8 4 4 0 xs) :
    Calls Tryd.prog 45 #[.slice (some ⟨g, off, none⟩) 8 8] w fun e w' => NextRes w w' xs e := by
  have hn : nextS xs = if 9000 < de4 xs ∨ xs.length - 8 < de4 xs then 0 else if de4 (xs.drop 4) ≠ crcU (crcS (xs.take 4)) ((xs.drop 8).take (de4 xs)) then 0 else 8 + de4 xs := by
    unfold nextS; rw [if_neg (by have := h.l8; have := h.len; omega)]
  rw [h.len] at hn
  have HN := Lib.hid hn; clear hn
  have hd4 : de4 (xs.drop 4) < 2 ^ 32 := de4_lt fun x hx => h.byte x (List.mem_of_mem_drop hx)
  have hdl : de4 xs < 2 ^ 32 := de4_lt h.byte
  have l8 := h.l8
  have hlx := h.len
  have HH := Lib.hid h; clear h
  have HL := Lib.hid hlx; clear hlx
  obtain ⟨d, hd⟩ : ∃ d, d = de4 xs := ⟨_, rfl⟩
  rw [← hd] at hdl
  have HD := Lib.hid hd; clear hd
  go_enter Tryd.func45, Tryd.ntmps45
  go_wp2_with fail
  have hf := fun (k : Nat) => field_any _ xs (w.drewN k) (HH.out.kept ((Kept.refl _ _).drewN k)).r0 HH.out.byte (by rw [HL.out]; omega)
  rw [← HD.out] at hf
  have HF := Lib.hid hf; clear hf
  go_quiet ((go_at_call 69; exact quiet_left (HF.out _)))
  clear HF
  have hk1 : Kept (fun _ => False) w (w.drewN nq) := (Kept.refl _ _).drewN _
  generalize w.drewN nq = w1 at hk1 ⊢
  have H1 := Lib.hid (HH.out.kept hk1)
  by_cases h1 : 9000 < d ∨ 0 < d
  · have hz : nextS xs = 0 := by rw [HN.out, if_pos (by rw [← HD.out]; exact h1)]
    have HZ := Lib.hid hz; clear hz
    by_cases h2 : 9000 < d
    · have h2' : (9000 : Int) < d := by omega
      clear h1
      go_wp2_with fail
      go_ret3
      exact Or.inl ⟨HZ.out, rfl, hk1⟩
    · have h3 : 0 < d := by omega
      have h2' : ¬ (9000 : Int) < d := by omega
      have h3' : (0 : Int) < d := by omega
      clear h1
      go_wp2_with fail
      go_ret3
      exact Or.inl ⟨HZ.out, rfl, hk1⟩
  · obtain rfl : d = 0 := by omega
    have hn2 : nextS xs = if de4 (xs.drop 4) ≠ crcU (crcS (xs.take 4)) ((xs.drop 8).take 0) then 0 else 8 + 0 := by rw [HN.out, if_neg (by rw [← HD.out]; exact h1), ← HD.out]
    have hcl : crcU (crcS (xs.take 4)) ((xs.drop 8).take 0) < 2 ^ 32 := crcU_lt (crcU_lt (by omega) fun x hx => HH.out.byte x (List.mem_of_mem_take hx)) fun x hx => HH.out.byte x (List.mem_of_mem_drop (List.mem_of_mem_take hx))
    have hc4 : crcS (xs.take 4) < 2 ^ 32 := crcU_lt (by omega) fun x hx => HH.out.byte x (List.mem_of_mem_take hx)
    clear h1
    have HN2 := Lib.hid hn2; clear hn2
    have g1 := fun (k : Nat) => field_any _ _ (w1.drewN k) (H1.out.kept ((Kept.refl _ _).drewN k)).r4 (fun x hx => HH.out.byte x (List.mem_of_mem_drop hx)) (by rw [List.length_drop, HL.out]; omega)
    have g2 := fun (k : Nat) => sum_any _ _ (w1.drewN k) (H1.out.kept ((Kept.refl _ _).drewN k)).t4 (fun x hx => HH.out.byte x (List.mem_of_mem_take hx)) (H1.out.kept ((Kept.refl _ _).drewN k)).tab
    have g3 := fun (k : Nat) => update_any (crcS (xs.take 4)) _ _ (w1.drewN k) hc4 ((H1.out.kept ((Kept.refl _ _).drewN k)).r8 0 (by omega)) (fun x hx => HH.out.byte x (List.mem_of_mem_drop (List.mem_of_mem_take hx))) (H1.out.kept ((Kept.refl _ _).drewN k)).tab
    have rp := H1.out.r8 0 (by omega)
    have hpl : ((xs.drop 8).take 0).length = 0 := by rw [List.length_take, List.length_drop, HL.out]; omega
    have hpm : ((xs.drop 8).take 0).length ≤ 140737488355328 := by omega
    have RP := Lib.hid rp; clear rp hpl
    have HN3 := HN2.out
    generalize crcU (crcS (xs.take 4)) ((xs.drop 8).take 0) = y at hcl g3 HN3
    generalize crcS (xs.take 4) = z at hc4 g2 g3
    generalize de4 (xs.drop 4) = x at hd4 g1 HN3
    have G1 := Lib.hid g1; have G2 := Lib.hid g2; have G3 := Lib.hid g3; have HN4 := Lib.hid HN3
    clear g1 g2 g3 HN3 HN2
    by_cases hxy : x = y
    · subst hxy
      have hfin : nextS xs = 8 + 0 := by rw [HN4.out, if_neg (by simp)]
      have HFN := Lib.hid hfin; clear hfin
      go_wp2_with fail
      go_quiet ((first | (go_at_call 69; exact quiet_left (G1.out _)) | (go_at_call 46; exact quiet_left (G2.out _)) | (go_at_call 56; exact quiet_left (G3.out _))))
      have hk2 : Kept (fun _ => False) w1 (w1.drewN nq) := (Kept.refl _ _).drewN _
      generalize w1.drewN nq = w2 at hk2 ⊢
      have hkw := hk1.then hk2
      have rp2 := RP.out.kept hk2 (fun _ _ h => h)
      have RP2 := Lib.hid rp2; clear rp2
      go_wp2_with fail
      refine (clone_any _ _ w2 RP2.out hpm).mono ?_
      rintro e w3 ⟨v3, rfl, hf3, hk3⟩
      have HF3 := Lib.hid hf3; clear hf3
      go_wp2_with fail
      go_ret3
      refine Or.inr ⟨by rw [HFN.out]; omega, v3, ?_, ?_, hkw.then hk3⟩
      · rw [HFN.out]; congr 3
      · rw [← HD.out]
        exact HF3.out.base hkw.size
    · have hb : ((x : Int) != (y : Int)) = true := by simp; omega
      have hb2 : ((x : Int) == (y : Int)) = false := by simp; omega
      have hz : nextS xs = 0 := by rw [HN4.out, if_pos hxy]
      have HZ := Lib.hid hz; clear hz
      go_wp2_with fail
      go_quiet ((first | (go_at_call 69; exact quiet_left (G1.out _)) | (go_at_call 46; exact quiet_left (G2.out _)) | (go_at_call 56; exact quiet_left (G3.out _))))
      have hk2 : Kept (fun _ => False) w1 (w1.drewN nq) := (Kept.refl _ _).drewN _
      generalize w1.drewN nq = w2 at hk2 ⊢
      have hkw := hk1.then hk2
      go_wp2_with fail
      go_ret3
      exact Or.inl ⟨HZ.out, rfl, hkw⟩

set_option maxRecDepth 100000 in
set_option maxHeartbeats 1600000 in
theorem nextM (xs : List Nat) (w : World) (g off n cap : Nat) (h : NextAt w g off (off + 8) n cap (n - 4) (cap - 4) (cap - 8) xs) (hcap : n ≤ cap) (hc8 : ¬ cap = 8) :
    Calls Tryd.prog 45 #[.slice (some ⟨g, off, none⟩) n cap] w fun e w' => NextRes w w' xs e := by
  have hn : nextS xs = if 9000 < de4 xs ∨ xs.length - 8 < de4 xs then 0 else if de4 (xs.drop 4) ≠ crcU (crcS (xs.take 4)) ((xs.drop 8).take (de4 xs)) then 0 else 8 + de4 xs := by
    unfold nextS; rw [if_neg (by have := h.l8; have := h.len; omega)]
  rw [h.len] at hn
  have HN := Lib.hid hn; clear hn
  have hd4 : de4 (xs.drop 4) < 2 ^ 32 := de4_lt fun x hx => h.byte x (List.mem_of_mem_drop hx)
  have hdl : de4 xs < 2 ^ 32 := de4_lt h.byte
  have l8 := h.l8
  have hlx := h.len
  have HH := Lib.hid h; clear h
  have HL := Lib.hid hlx; clear hlx
  obtain ⟨d, hd⟩ : ∃ d, d = de4 xs := ⟨_, rfl⟩
  rw [← hd] at hdl
  have HD := Lib.hid hd; clear hd
  have hl1 : ¬ (n : Int) < 8 := by omega
  have hl2 : (8 : Int) ≤ n := by omega
  have hl3 : (4 : Int) ≤ n := by omega
  have hc4 : ¬ cap = 4 := by omega
  go_enter Tryd.func45, Tryd.ntmps45
  go_wp2_with fail
  have hf := fun (k : Nat) => field_any _ xs (w.drewN k) (HH.out.kept ((Kept.refl _ _).drewN k)).r0 HH.out.byte (by rw [HL.out]; omega)
  rw [← HD.out] at hf
  have HF := Lib.hid hf; clear hf
  go_quiet ((go_at_call 69; exact quiet_left (HF.out _)))
  clear HF
  have hk1 : Kept (fun _ => False) w (w.drewN nq) := (Kept.refl _ _).drewN _
  generalize w.drewN nq = w1 at hk1 ⊢
  have H1 := Lib.hid (HH.out.kept hk1)
  by_cases h1 : 9000 < d ∨ (n - 8) < d
  · have hz : nextS xs = 0 := by rw [HN.out, if_pos (by rw [← HD.out]; exact h1)]
    have HZ := Lib.hid hz; clear hz
    by_cases h2 : 9000 < d
    · have h2' : (9000 : Int) < d := by omega
      clear h1
      go_wp2_with fail
      go_ret3
      exact Or.inl ⟨HZ.out, rfl, hk1⟩
    · have h3 : (n - 8) < d := by omega
      have h2' : ¬ (9000 : Int) < d := by omega
      have h3' : (((n : Int) - 8) : Int) < d := by omega
      clear h1
      go_wp2_with fail
      go_ret3
      exact Or.inl ⟨HZ.out, rfl, hk1⟩
  · have h2' : ¬ (9000 : Int) < d := by omega
    have h3' : ¬ (((n : Int) - 8) : Int) < d := by omega
    have h4' : (d : Int) ≤ ((n : Int) - 8) := by omega
    have h5 : d ≤ (n - 8) := by omega
    have h6 : d ≤ cap - 8 := by omega
    have h6' : (d : Int) ≤ ((cap : Int) - 8) := by omega
    have h7 : d ≤ 9000 := by omega
    have hn2 : nextS xs = if de4 (xs.drop 4) ≠ crcU (crcS (xs.take 4)) ((xs.drop 8).take d) then 0 else 8 + d := by rw [HN.out, if_neg (by rw [← HD.out]; exact h1), ← HD.out]
    have hcl : crcU (crcS (xs.take 4)) ((xs.drop 8).take d) < 2 ^ 32 := crcU_lt (crcU_lt (by omega) fun x hx => HH.out.byte x (List.mem_of_mem_take hx)) fun x hx => HH.out.byte x (List.mem_of_mem_drop (List.mem_of_mem_take hx))
    have hc4 : crcS (xs.take 4) < 2 ^ 32 := crcU_lt (by omega) fun x hx => HH.out.byte x (List.mem_of_mem_take hx)
    clear h1
    have HN2 := Lib.hid hn2; clear hn2
    have g1 := fun (k : Nat) => field_any _ _ (w1.drewN k) (H1.out.kept ((Kept.refl _ _).drewN k)).r4 (fun x hx => HH.out.byte x (List.mem_of_mem_drop hx)) (by rw [List.length_drop, HL.out]; omega)
    have g2 := fun (k : Nat) => sum_any _ _ (w1.drewN k) (H1.out.kept ((Kept.refl _ _).drewN k)).t4 (fun x hx => HH.out.byte x (List.mem_of_mem_take hx)) (H1.out.kept ((Kept.refl _ _).drewN k)).tab
    have g3 := fun (k : Nat) => update_any (crcS (xs.take 4)) _ _ (w1.drewN k) hc4 ((H1.out.kept ((Kept.refl _ _).drewN k)).r8 d (by omega)) (fun x hx => HH.out.byte x (List.mem_of_mem_drop (List.mem_of_mem_take hx))) (H1.out.kept ((Kept.refl _ _).drewN k)).tab
    have rp := H1.out.r8 d (by omega)
    have hpl : ((xs.drop 8).take d).length = d := by rw [List.length_take, List.length_drop, HL.out]; omega
    have hpm : ((xs.drop 8).take d).length ≤ 140737488355328 := by omega
    have RP := Lib.hid rp; clear rp hpl
    have HN3 := HN2.out
    generalize crcU (crcS (xs.take 4)) ((xs.drop 8).take d) = y at hcl g3 HN3
    generalize crcS (xs.take 4) = z at hc4 g2 g3
    generalize de4 (xs.drop 4) = x at hd4 g1 HN3
    have G1 := Lib.hid g1; have G2 := Lib.hid g2; have G3 := Lib.hid g3; have HN4 := Lib.hid HN3
    clear g1 g2 g3 HN3 HN2
    by_cases hxy : x = y
    · subst hxy
      have hfin : nextS xs = 8 + d := by rw [HN4.out, if_neg (by simp)]
      have HFN := Lib.hid hfin; clear hfin
      go_wp2_with fail
      go_quiet ((first | (go_at_call 69; exact quiet_left (G1.out _)) | (go_at_call 46; exact quiet_left (G2.out _)) | (go_at_call 56; exact quiet_left (G3.out _))))
      have hk2 : Kept (fun _ => False) w1 (w1.drewN nq) := (Kept.refl _ _).drewN _
      generalize w1.drewN nq = w2 at hk2 ⊢
      have hkw := hk1.then hk2
      have rp2 := RP.out.kept hk2 (fun _ _ h => h)
      have RP2 := Lib.hid rp2; clear rp2
      go_wp2_with fail
      refine (clone_any _ _ w2 RP2.out hpm).mono ?_
      rintro e w3 ⟨v3, rfl, hf3, hk3⟩
      have HF3 := Lib.hid hf3; clear hf3
      go_wp2_with fail
      go_ret3
      refine Or.inr ⟨by rw [HFN.out]; omega, v3, ?_, ?_, hkw.then hk3⟩
      · rw [HFN.out]; congr 3
      · rw [← HD.out]
        exact HF3.out.base hkw.size
    · have hb : ((x : Int) != (y : Int)) = true := by simp; omega
      have hb2 : ((x : Int) == (y : Int)) = false := by simp; omega
      have hz : nextS xs = 0 := by rw [HN4.out, if_pos hxy]
      have HZ := Lib.hid hz; clear hz
      go_wp2_with fail
      go_quiet ((first | (go_at_call 69; exact quiet_left (G1.out _)) | (go_at_call 46; exact quiet_left (G2.out _)) | (go_at_call 56; exact quiet_left (G3.out _))))
      have hk2 : Kept (fun _ => False) w1 (w1.drewN nq) := (Kept.refl _ _).drewN _
      generalize w1.drewN nq = w2 at hk2 ⊢
      have hkw := hk1.then hk2
      go_wp2_with fail
      go_ret3
      exact Or.inl ⟨HZ.out, rfl, hkw⟩

/-- Next of any bytes. -/
theorem next_any (p : Value) (xs : List Nat) (w : World) (hp : Reads w p xs) (hb : ∀ x ∈ xs, x < 256) (hT : Tab w) :
    Calls Tryd.prog 45 #[p] w fun e w' => NextRes w w' xs e := by
  by_cases hl : xs.length < 8
  · exact next_short p xs w hp hl
  · have hp0 := hp
    rcases hp with ⟨rfl, rfl⟩ | ⟨g, off, cap, rfl, h1, h2, h3, h4⟩
    · simp at hl
    · by_cases h8 : cap = 8
      · subst h8
        have h := NextAt.mk' (o2 := off) hp0 hb hT (by omega) ⟨fun _ => rfl, fun h => absurd rfl h⟩ h1 h3
        have hn : xs.length = 8 := by omega
        rw [hn] at h ⊢
        exact next8 xs w g off h
      · have h := NextAt.mk' (o2 := off + 8) hp0 hb hT (by omega) ⟨fun e => absurd e h8, fun _ => rfl⟩ h1 h3
        exact nextM xs w g off _ cap h h1 h8
end Go.Proofs.YtncieckanngodaaDoor
