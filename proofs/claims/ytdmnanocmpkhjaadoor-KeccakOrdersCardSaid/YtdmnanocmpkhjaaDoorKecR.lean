/-
  arbac/keccak: permute.
-/
import Derived.Test.YtdmnanocmpkhjaaDoorKecV
namespace Go.Proofs.YtdmnanocmpkhjaaDoor
open Go.RowKit

section
variable {P : Program}
theorem wpList_index_agg {ops : Array Oper} {rest : List Oper} {o : Oper} {a : Act} {w : World} {Q : Exit → Act → World → Prop} (hgd : o.guard = none) (t : TypeId) (x y : Operand) (ho : o.op = .index t x y)
    (e : TypeId) (n : Nat) (cs : Array Value) (i : Nat) (v : Value) (k : IntKind) (ie : TypeInfo) (hx : a.eval x = .agg cs) (hy : a.eval y = .int .i64 i) (ht : P.underlying t = some (.array n e)) (he : P.underlying e = some (.int k))
    (hie : P.info? e = some ie) (hs : ie.size = 1) (hi : i < n) (hv : cs[i]? = some v)
    (h : wpList P ops Q rest (a.put o.dst v) w) : wpList P ops Q (o :: rest) a w := by
  refine wpList_plain hgd fun K hK => ?_
  unfold Oper.wp execOp
  simp only [ho, hx, hy, Sem.run_bind, Sem.run_pure, Result.andThen_ok, run_index_agg w t e n cs i v k ie ht he hie hs hi hv]
  exact hK _ _ h
end

/-- Row k of a state. -/
def rowL (b : List Nat) (k : Nat) : List Nat := [ln b (5 * k), ln b (5 * k + 1), ln b (5 * k + 2), ln b (5 * k + 3), ln b (5 * k + 4)]
def chiR (b : List Nat) (k : Nat) : List Nat :=
  [chi1 (ln b (5 * k)) (ln b (5 * k + 1)) (ln b (5 * k + 2)), chi1 (ln b (5 * k + 1)) (ln b (5 * k + 2)) (ln b (5 * k + 3)), chi1 (ln b (5 * k + 2)) (ln b (5 * k + 3)) (ln b (5 * k + 4)), chi1 (ln b (5 * k + 3)) (ln b (5 * k + 4)) (ln b (5 * k)), chi1 (ln b (5 * k + 4)) (ln b (5 * k)) (ln b (5 * k + 1))]
/-- Step 3: every row; and how far it has come behind k rows. -/
def chiS (b : List Nat) : List Nat := chiR b 0 ++ chiR b 1 ++ chiR b 2 ++ chiR b 3 ++ chiR b 4
def chiK (b m : List Nat) (k : Nat) : List Nat := (chiS b).take (5 * k) ++ m.drop (5 * k)
def rndS (s : List Nat) (c : Nat) : List Nat := (chiS (movS (mixS s))).set 0 (ln (chiS (movS (mixS s))) 0 ^^^ c)
def permK (s : List Nat) (k : Nat) : List Nat := (rcs.take k).foldl rndS s
def permS (s : List Nat) : List Nat := rcs.foldl rndS s
theorem chiS_length (b : List Nat) : (chiS b).length = 25 := by simp [chiS, chiR]
theorem chiK_length (b m : List Nat) (k : Nat) (hm : m.length = 25) (hk : k ≤ 5) : (chiK b m k).length = 25 := by simp [chiK, chiS_length, hm]; omega
theorem chiK_zero (b m : List Nat) : chiK b m 0 = m := by simp [chiK]
theorem chiK_five (b m : List Nat) (hm : m.length = 25) : chiK b m 5 = chiS b := by simp [chiK, hm, List.take_of_length_le, chiS_length]
theorem chiR_lt {b : List Nat} (h : ∀ x ∈ b, x < 2 ^ 64) (k : Nat) : ∀ x ∈ chiR b k, x < 2 ^ 64 := by
  intro x hx
  simp only [chiR, List.mem_cons, List.not_mem_nil, or_false] at hx
  rcases hx with rfl | rfl | rfl | rfl | rfl <;> exact chi1_lt (ln_lt h _) (ln_lt h _)
theorem chiS_lt {b : List Nat} (h : ∀ x ∈ b, x < 2 ^ 64) : ∀ x ∈ chiS b, x < 2 ^ 64 := by
  intro x hx
  simp only [chiS, List.mem_append] at hx
  rcases hx with (((hx | hx) | hx) | hx) | hx <;> exact chiR_lt h _ x hx
theorem chiS_row (b : List Nat) (k : Nat) (hk : k < 5) : ((chiS b).drop (5 * k)).take 5 = chiR b k := by
  match k, hk with
  | 0, _ => rfl
  | 1, _ => rfl
  | 2, _ => rfl
  | 3, _ => rfl
  | 4, _ => rfl
theorem rcs_lt (k : Nat) : rcs.getD k 0 < 2 ^ 64 := by
  by_cases hk : k < 24
  · have : ∀ k, k < 24 → rcs.getD k 0 < 2 ^ 64 := by decide
    exact this k hk
  · rw [List.getD_eq_getElem?_getD, List.getElem?_eq_none (by simp [rcs]; omega)]; simp
theorem rndS_length (s : List Nat) (c : Nat) : (rndS s c).length = 25 := by simp [rndS, chiS_length]
theorem rndS_lt {s : List Nat} (h : ∀ x ∈ s, x < 2 ^ 64) {c : Nat} (hc : c < 2 ^ 64) : ∀ x ∈ rndS s c, x < 2 ^ 64 :=
  set_lt (chiS_lt (movK_lt (mixS_lt h) 25)) _ _ (Nat.xor_lt_two_pow (ln_lt (chiS_lt (movK_lt (mixS_lt h) 25)) _) hc)
theorem permK_succ (s : List Nat) (k : Nat) (hk : k < 24) : permK s (k + 1) = rndS (permK s k) (rcs.getD k 0) := by
  unfold permK
  rw [List.take_succ_eq_append_getElem (by simp [rcs]; omega), List.foldl_append]
  simp [List.getD, show k < rcs.length by simp [rcs]; omega]
theorem permK_inv {s : List Nat} (h : ∀ x ∈ s, x < 2 ^ 64) (hs : s.length = 25) (k : Nat) (hk : k ≤ 24) : (permK s k).length = 25 ∧ ∀ x ∈ permK s k, x < 2 ^ 64 := by
  induction k with
  | zero => exact ⟨hs, h⟩
  | succ k ih =>
    rw [permK_succ s k (by omega)]
    exact ⟨rndS_length _ _, rndS_lt (ih (by omega)).2 (rcs_lt k)⟩
theorem permS_lt {s : List Nat} (h : ∀ x ∈ s, x < 2 ^ 64) (hs : s.length = 25) : (permS s).length = 25 ∧ ∀ x ∈ permS s, x < 2 ^ 64 := permK_inv h hs 24 (by omega)

theorem Lanes.part {w : World} {g off : Nat} {s : List Nat} (h : Lanes w g off s) (a : Nat) (t : List Nat) (ht : ∀ i, i < t.length → a + i < s.length ∧ t.getD i 0 = s.getD (a + i) 0) : Lanes w g (off + a) t :=
  ⟨fun i hi => by have := h.cell (a + i) (ht i hi).1; rw [← Nat.add_assoc] at this; rw [this, (ht i hi).2], fun i hi => by have := h.free (a + i) (ht i hi).1; rwa [← Nat.add_assoc] at this⟩
theorem Lanes.row {w : World} {g off : Nat} {b : List Nat} (h : Lanes w g off b) (hb : b.length = 25) (k : Nat) (hk : k < 5) : Lanes w g (off + 5 * k) (rowL b k) := by
  refine h.part (5 * k) _ fun i hi => ?_
  have hi5 : i < 5 := hi
  refine ⟨by omega, ?_⟩
  match i, hi5 with
  | 0, _ => rfl
  | 1, _ => rfl
  | 2, _ => rfl
  | 3, _ => rfl
  | 4, _ => rfl
theorem chiK_step {w w' : World} {g off k : Nat} {b m : List Nat} (hm : m.length = 25) (hk : k < 5) (h : Lanes w g off (chiK b m k)) (hr : Lanes w' g (off + 5 * k) (chiR b k)) (kr : KR g (off + 5 * k) (off + 5 * k + 5) w w') : Lanes w' g off (chiK b m (k + 1)) := by
  have hl1 := chiK_length b m k hm (by omega)
  have hl2 := chiK_length b m (k + 1) hm (by omega)
  have hval : ∀ i, i < 25 → ¬ (5 * k ≤ i ∧ i < 5 * k + 5) → (chiK b m (k + 1)).getD i 0 = (chiK b m k).getD i 0 := by
    intro i hi hn
    simp only [chiK, List.getD_eq_getElem?_getD]
    by_cases h1 : i < 5 * k
    · rw [List.getElem?_append_left (by simp [chiS_length]; omega), List.getElem?_append_left (by simp [chiS_length]; omega), List.getElem?_take_of_lt (by omega), List.getElem?_take_of_lt (by omega)]
    · rw [List.getElem?_append_right (by simp [chiS_length]; omega), List.getElem?_append_right (by simp [chiS_length]; omega)]
      simp only [List.length_take, chiS_length, List.getElem?_drop]
      congr 2
      omega
  have hrow : ∀ i, 5 * k ≤ i → i < 5 * k + 5 → (chiK b m (k + 1)).getD i 0 = (chiR b k).getD (i - 5 * k) 0 := by
    intro i h1 h2
    rw [← chiS_row b k hk]
    simp only [chiK, List.getD_eq_getElem?_getD]
    rw [List.getElem?_append_left (by simp [chiS_length]; omega), List.getElem?_take_of_lt (by omega), List.getElem?_take_of_lt (by omega), List.getElem?_drop]
    congr 2
    omega
  refine ⟨fun i hi => ?_, fun i hi => ?_⟩
  · rw [hl2] at hi
    by_cases hin : 5 * k ≤ i ∧ i < 5 * k + 5
    · have := hr.cell (i - 5 * k) (by simp [chiR]; omega)
      rw [show off + 5 * k + (i - 5 * k) = off + i by omega] at this
      rw [this, hrow i hin.1 hin.2]
    · rw [kr.out _ (by omega), h.cell i (by omega), hval i hi hin]
  · rw [hl2] at hi
    rw [kr.frozen]; exact h.free i (by omega)

def NoTab (g : Nat) : Prop := g ≠ 2 ∧ g ≠ 3 ∧ g ≠ 1
theorem KTab.keptNe {g : Nat} {a b : World} (h : KTab a) (hk : Kept (fun k => k = g) a b) (hn : NoTab g) : KTab b :=
  ⟨Nat.lt_of_lt_of_le h.lt1 hk.size, Nat.lt_of_lt_of_le h.lt2 hk.size, Nat.lt_of_lt_of_le h.lt3 hk.size,
    fun i hi => (hk.cell (p := ⟨2, i, none⟩) h.lt1 (fun e => hn.1 e.symm)).trans (h.turn i hi), fun i hi => (hk.cell (p := ⟨3, i, none⟩) h.lt2 (fun e => hn.2.1 e.symm)).trans (h.place i hi), fun i hi => (hk.cell (p := ⟨1, i, none⟩) h.lt3 (fun e => hn.2.2 e.symm)).trans (h.rc i hi)⟩
theorem KTab.fresh {w : World} (h : KTab w) {g : Nat} (hg : w.heap.size ≤ g) : NoTab g := by
  have := h.lt1; have := h.lt2; have := h.lt3
  refine ⟨?_, ?_, ?_⟩ <;> omega

theorem size24 : (Tryd.prog.info? 48).map (·.size) = some 24 := by kernel_rfl

set_option maxRecDepth 100000 in
set_option maxHeartbeats 1600000 in
theorem permute_any (w : World) (g off : Nat) (s : List Nat) (h25 : s.length = 25) (hb : ∀ x ∈ s, x < 2 ^ 64) (h : Lanes w g off s) (hg : g < w.heap.size) (hT : KTab w) (hn : NoTab g) :
    Calls Tryd.prog 16 #[.pointer (some ⟨g, off, none⟩)] w fun e w' => e = .returned (.tuple #[]) ∧ Lanes w' g off (permS s) ∧ KR g off (off + 25) w w' := by
  have hrc : ∀ j v, (arr rcs)[j]? = some v → w.cell? ⟨1, 0 + j, none⟩ = some v := by
    intro j v hv
    have hj : j < rcs.length := by
      have := (List.getElem?_eq_some_iff.1 hv).1
      rwa [arr_length] at this
    rw [Nat.zero_add, hT.rc j hj, ← hv, arr_get rcs j hj]; rfl
  have hi24 : (Tryd.prog.info? 48).map (·.size) = some (arr rcs).length := by rw [arr_length]; exact size24
  have INV := fun k (hk : k ≤ 24) => permK_inv hb h25 k hk
  have HINV := Lib.hid INV
  have HH := Lib.hid h; have HT := Lib.hid hT; have HN := Lib.hid hn; have HRC := Lib.hid hrc; have HI := Lib.hid hi24
  clear h hb h25 hT hn hrc hi24 INV
  obtain ⟨cs, hcs⟩ : ∃ cs, cs = arr rcs := ⟨_, rfl⟩
  rw [← hcs] at HRC HI
  have HCS := Lib.hid hcs; clear hcs
  go_enter Tryd.func16, Tryd.ntmps16
  go_wp2_with (first | (refine wpList_load_at rfl 48 _ rfl 1 0 rfl cs _ HRC.out Tryd.underlying48 rfl HI.out ?_))
  go_loopw [3, 4, 5, 7] (fun _ _ _ i W => ∃ k : Nat, k ≤ 24 ∧ i = .int .i64 k ∧ Lanes W g off (permK s k) ∧ KR g off (off + 25) w W) (fun _ _ _ i _ => 24 - (intOf i).toNat)
  case atStart => exact ⟨0, by omega, rfl, HH.out, KR.refl _ _ _ _⟩
  case round =>
    obtain ⟨k, hk, rfl, hm, hkw⟩ := hrel
    by_cases hlt : k < 24
    · obtain ⟨hl, hb⟩ := HINV.out k hk
      have hc := rcs_lt k
      have hsucc := permK_succ s k hlt
      have hv : cs.toArray[k]? = some (.int .u64 (rcs.getD k 0 : Nat)) := by
        rw [HCS.out]; simpa [ln] using arr_get rcs k hlt
      obtain ⟨c, hce⟩ : ∃ c, c = rcs.getD k 0 := ⟨_, rfl⟩
      rw [← hce] at hc hsucc hv
      obtain ⟨t, hte⟩ : ∃ t, t = permK s k := ⟨_, rfl⟩
      rw [← hte] at hl hb hsucc hm
      have hT1 := HT.out.keptNe hkw.kept HN.out
      have hgg := Nat.lt_of_lt_of_le hg hkw.kept.size
      have hml := mixS_length t
      have hmb := mixS_lt hb
      have hcl := movK_length (mixS t) 25
      have hcb := movK_lt hmb 25
      have m0 : (k : Int) < 24 := by omega
      have HS := Lib.hid hsucc; have HV := Lib.hid hv; have HM := Lib.hid hm; have HKW := Lib.hid hkw; have HB := Lib.hid hb; have HMB := Lib.hid hmb; have HCB := Lib.hid hcb; have HT1 := Lib.hid hT1
      clear hsucc hv hm hkw hb hmb hcb hT1 hce hte
      have HI2 := Lib.hid size25
      go_wp2_with (first | (refine wpList_index_agg rfl 48 _ _ rfl 34 24 cs.toArray k _ .u64 _ rfl rfl Tryd.underlying48 Tryd.underlying34 rfl rfl hlt HV.out ?_))
      refine (mixColumns_any wr g off t hl HB.out HM.out hgg).mono ?_
      rintro e w1 ⟨rfl, hm1, kr1⟩
      have hT2 := HT1.out.keptNe kr1.kept HN.out
      have hg1 := Nat.lt_of_lt_of_le hgg kr1.kept.size
      have HK1 := Lib.hid (HKW.out.trans kr1 (Nat.le_refl _) (Nat.le_refl _) (Nat.le_refl _) (Nat.le_refl _))
      have HM1 := Lib.hid hm1; have HT2 := Lib.hid hT2
      clear hm1 hT2 kr1 HKW HM HT1
      go_wp2_with fail
      refine (moved_any w1 g off (mixS t) hml HMB.out HM1.out hg1 HT2.out).mono ?_
      rintro e w2 ⟨rfl, hk2⟩
      obtain ⟨m, hme⟩ : ∃ m, m = mixS t := ⟨_, rfl⟩
      rw [← hme] at hml hcl HMB HCB HM1 
      rw [← hme]
      have HME := Lib.hid hme; clear hme
      change (movS m).length = 25 at hcl
      have HCB' : Hid (∀ x ∈ movS m, x < 2 ^ 64) := HCB
      clear HCB
      obtain ⟨b, hbe⟩ : ∃ b, b = movS m := ⟨_, rfl⟩
      rw [← hbe] at HCB' hcl
      rw [← hbe]
      obtain ⟨bs, hbs⟩ : ∃ bs, bs = arr b := ⟨_, rfl⟩
      have hbl : bs.length = 25 := by rw [hbs, arr_length, hcl]
      have hbz : (Tryd.prog.info? 36).map (·.size) = some bs.length := by rw [hbl]; exact size25
      have hb1 : ∀ v ∈ bs, v.oneCell' = true := by rw [hbs]; exact arr_one b
      rw [← hbs]
      have ZL := lanes_new w2 (arr (List.replicate 25 0)).toArray 36 (List.replicate 25 0) rfl
      have z1 : ∀ j, j < bs.length → ((w2.alloc (.cells (arr (List.replicate 25 0)).toArray 36)).cell? ⟨w2.heap.size, 0 + j, none⟩).isSome = true := fun j hj => by
        rw [hbl] at hj; rw [ZL.cell j (by simpa using hj)]; rfl
      have z2 : ∀ j, j < bs.length → (w2.alloc (.cells (arr (List.replicate 25 0)).toArray 36)).frozen? ⟨w2.heap.size, 0 + j, none⟩ = false := fun j hj => by
        rw [hbl] at hj; exact ZL.free j (by simpa using hj)
      have hfin := ZL.setCells (t := b) (by simp [hcl])
      have ka : Kept (fun _ => False) w1 (w2.alloc (.cells (arr (List.replicate 25 0)).toArray 36)) := hk2.then (Kept.alloc _ _ _)
      have kb := ka.trans (Kept.setCells w2.heap.size (arr b) 0 _) (T := fun _ => False) (fun _ _ h => h) (fun i hi e => by have := hk2.size; omega)
      have hm3 := HM1.out.kept kb hg1 (fun h => h)
      have k3 := HK1.out.trans (KR.ofKept (g := g) (lo := off) (hi := off + 25) kb hg1) (Nat.le_refl _) (Nat.le_refl _) (Nat.le_refl _) (Nat.le_refl _)
      have hgb : g < w2.heap.size := Nat.lt_of_lt_of_le hg1 hk2.size
      rw [← hbs] at hfin hm3 k3
      have Z1 := Lib.hid z1; have Z2 := Lib.hid z2; have HF := Lib.hid hfin; have HM3 := Lib.hid hm3; have HK3 := Lib.hid k3; have HB1 := Lib.hid hb1; have HBZ := Lib.hid hbz
      have HBS := Lib.hid hbs; have HBE := Lib.hid hbe
      clear z1 z2 hfin hm3 k3 hb1 hbz ka kb hk2 ZL HM1 HK1 HT2 hbs hbe
      go_wp2_with (first | (refine wpList_store_at rfl 36 _ _ rfl w2.heap.size 0 bs rfl rfl Z1.out Z2.out HB1.out HBZ.out ?_))
      go_loopw [5] (fun y W => ∃ j : Nat, j ≤ 5 ∧ y = .int .i64 ((5 * j : Nat) : Int) ∧ Lanes W g off (chiK b m j) ∧ Lanes W w2.heap.size 0 b ∧ KR g off (off + 25) w W ∧ w2.heap.size < W.heap.size) (fun y _ => 25 - (intOf y).toNat)
      case atStart =>
        refine ⟨0, by omega, rfl, ?_, HF.out, HK3.out, ?_⟩
        · rw [chiK_zero]; exact HM3.out
        · refine Nat.lt_of_lt_of_le ?_ (Kept.setCells w2.heap.size bs 0 _).size
          simp
      case round =>
        obtain ⟨j, hj, rfl, hz, hbL, hkj, hsz⟩ := hrel
        clear Z1 Z2 HF HM3 HK3 HB1 HBZ
        have hgj := Nat.lt_of_lt_of_le hg hkj.kept.size
        obtain ⟨y, hy⟩ : ∃ y, y = 5 * j := ⟨_, rfl⟩
        rw [← hy]
        by_cases hjl : j < 5
        · have hrow := hbL.row hcl j hjl
          have hsub := hz.part (5 * j) (((chiK b m j).drop (5 * j)).take 5) (fun i hi => by
            have h1 := chiK_length b m j hml (by omega)
            simp [h1] at hi
            refine ⟨by omega, ?_⟩
            simp [List.getD, List.getElem?_drop, show i < 5 by omega])
          have hsl : (((chiK b m j).drop (5 * j)).take 5).length = 5 := by simp [chiK_length b m j hml (by omega)]; omega
          generalize ((chiK b m j).drop (5 * j)).take 5 = sub at hsub hsl
          rw [Nat.zero_add] at hrow
          obtain ⟨y5, hy5⟩ : ∃ y5, y5 = y + 5 := ⟨_, rfl⟩
          rw [← hy] at hsub hrow
          have n5 : IntKind.i64.wrap ((y : Int) + 5) = (y5 : Int) := by rw [IntWalk.i64_in _ (by omega)]; omega
          have y1 : (0 : Int) ≤ y := by omega
          have y2 : (y : Int) < 25 := by omega
          have y3 : (y5 : Int) ≤ 25 := by omega
          have y4 : (y : Int) ≤ y5 := by omega
          have y6 : y5 - y = 5 := by omega
          have y7 : ¬ 25 = y := by omega
          have hsd : w2.heap.size < wr.drew.heap.size := hsz
          have HSUB := Lib.hid hsub.drew; have HROW := Lib.hid hrow.drew; have HZ := Lib.hid hz.drew; have HBL := Lib.hid hbL.drew; have HKJ := Lib.hid hkj.drew
          have HY := Lib.hid hy; have HY5 := Lib.hid hy5
          clear hsub hrow hz hbL hkj hy hy5
          go_wp2_with fail
          go_still_tail 10, (by kernel_rfl)
          change wpList _ _ _ _ _ wr.drew
          generalize wr.drew = wd at *
          go_wp2_with fail
          refine (mixRow_any wd g (off + y) (25 - y) w2.heap.size y (25 - y) sub _ _ _ _ _ hsl HSUB.out HROW.out (by omega) hsd (ln_lt HCB'.out _) (ln_lt HCB'.out _) (ln_lt HCB'.out _) (ln_lt HCB'.out _) (ln_lt HCB'.out _)).mono ?_
          rintro e w4 ⟨rfl, hr4, kr4⟩
          have hr4' : Lanes w4 g (off + 5 * j) (chiR b j) := by have := hr4; rw [HY.out] at this; exact this
          have hz4 : Lanes w4 g off (chiK b m (j + 1)) := chiK_step hml hjl HZ.out hr4' (by have := kr4; rw [HY.out] at this; exact this)
          have hb4 := HBL.out.kept kr4.kept hsd (show ¬ w2.heap.size = g by omega)
          have hk4 := HKJ.out.trans kr4 (Nat.le_refl _) (Nat.le_refl _) (by omega) (by have := HY.out; omega)
          have hs4 := Nat.lt_of_lt_of_le hsd kr4.kept.size
          have HZ4 := Lib.hid hz4; have HB4 := Lib.hid hb4; have HK4 := Lib.hid hk4
          clear hr4 kr4 hr4' hz4 hb4 hk4 HSUB HROW HZ HBL HKJ
          go_wp2_with fail
          go_roundw
          case rel =>
            have e5 : y5 = 5 * (j + 1) := by have := HY.out; have := HY5.out; omega
            subst e5
            first
              | exact ⟨j + 1, by omega, rfl, HZ4.out, HB4.out, HK4.out, hs4⟩
              | ((repeat apply Exists.intro); exact ⟨⟨j + 1, by omega, rfl, HZ4.out, HB4.out, HK4.out, hs4⟩, rfl⟩)
          case measure => have := HY5.out; simp [intOf]; omega
        · obtain rfl : j = 5 := by omega
          obtain rfl : y = 25 := hy
          rw [chiK_five b m hml] at hz
          have hc0 := hz.cell 0 (by rw [chiS_length]; omega)
          have hf0 := hz.free 0 (by rw [chiS_length]; omega)
          rw [Nat.add_zero] at hc0 hf0
          obtain ⟨v, hve⟩ : ∃ v, v = (chiS b).getD 0 0 := ⟨_, rfl⟩
          have hvl : v < 2 ^ 64 := by rw [hve]; exact ln_lt (chiS_lt HCB'.out) 0
          rw [← hve] at hc0
          have hx := xor64 v c (v ^^^ c) hvl hc rfl
          have hset := hz.drew.set 0 (v ^^^ c) (by rw [chiS_length]; omega)
          rw [Nat.add_zero] at hset
          have hfin : (chiS b).set 0 (v ^^^ c) = permK s (k + 1) := by
            rw [HS.out, hve]; unfold rndS; rw [← HME.out, ← HBE.out]; rfl
          rw [hfin] at hset
          have hkr := hkj.drew.trans (KR.setCell g off off (off + 25) wr.drew (.int .u64 ((v ^^^ c : Nat) : Int)) (by omega)) (Nat.le_refl _) (Nat.le_refl _) (Nat.le_refl _) (Nat.le_refl _)
          have HSET := Lib.hid hset; have HKR := Lib.hid hkr
          clear hset hfin hkr hz hbL hkj hve
          obtain ⟨z, hzz⟩ : ∃ z, z = v ^^^ c := ⟨_, rfl⟩
          rw [← hzz] at hx HSET HKR
          clear hzz
          go_wp2_with fail
          go_still_tail 8, (by kernel_rfl)
          change wpList _ _ _ _ _ wr.drew
          replace hc0 : wr.drew.cell? _ = _ := hc0
          replace hf0 : wr.drew.frozen? _ = _ := hf0
          generalize wr.drew = wd at *
          go_wp2_with fail
          go_roundw
          case rel =>
            first
              | exact ⟨k + 1, by omega, by go_num, HSET.out, HKR.out⟩
              | ((repeat apply Exists.intro); exact ⟨⟨k + 1, by omega, by go_num, HSET.out, HKR.out⟩, rfl⟩)
          case measure => simp [intOf]; omega
    · obtain rfl : k = 24 := by omega
      have HM := Lib.hid hm; have HK := Lib.hid hkw
      clear hm hkw
      go_wp2_with fail
      go_end0
      exact ⟨rfl, HM.out, HK.out⟩
end Go.Proofs.YtdmnanocmpkhjaaDoor
