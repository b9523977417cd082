/-
  bits.Set: With of a member (from 0 to 4095).
-/
import Derived.Test.YtccanbjnbmihgaaDoorBHas
import Derived.Laws.CopyOwn
namespace Go.Proofs.YtccanbjnbmihgaaDoor
open Go.RowKit

theorem or_same (M i : Nat) (h : M.testBit i = true) : M ||| 2 ^ i = M := by
  refine Nat.eq_of_testBit_eq fun j => ?_
  rw [Nat.testBit_or, Nat.testBit_two_pow]
  by_cases hj : i = j
  · subst hj; simp [h]
  · simp [hj]

theorem or_low_mod (M i : Nat) (h : i < 64) : (M ||| 2 ^ i) % 2 ^ 64 = M % 2 ^ 64 ||| 2 ^ i := by
  have := word_or M i 0
  rw [if_pos (by omega), Nat.mod_eq_of_lt h] at this
  simpa using this

theorem or_low_div (M i : Nat) (h : i < 64) : (M ||| 2 ^ i) / 2 ^ 64 = M / 2 ^ 64 := by
  refine Nat.eq_of_testBit_eq fun j => ?_
  rw [Nat.testBit_div_two_pow, Nat.testBit_div_two_pow, Nat.testBit_or, Nat.testBit_two_pow]
  have : ¬ i = j + 64 := by omega
  simp [this]

theorem or_high_mod (M i : Nat) (h : 64 ≤ i) : (M ||| 2 ^ i) % 2 ^ 64 = M % 2 ^ 64 := by
  have := word_or M i 0
  rw [if_neg (by omega)] at this
  simpa using this

theorem or_high_div (M i : Nat) (h : 64 ≤ i) : (M ||| 2 ^ i) / 2 ^ 64 = M / 2 ^ 64 ||| 2 ^ (i - 64) := by
  refine Nat.eq_of_testBit_eq fun j => ?_
  rw [Nat.testBit_div_two_pow, Nat.testBit_or, Nat.testBit_or, Nat.testBit_two_pow, Nat.testBit_two_pow, Nat.testBit_div_two_pow]
  have : (i = j + 64) ↔ (i - 64 = j) := by omega
  simp [this]

/-- The words with room for a further one are the number's words. -/
theorem wl_room (hs : List Nat) (M m : Nat) (h : Canon hs M) (hm : hs.length ≤ m) : hs ++ List.replicate (m - hs.length) 0 = wl M m := by
  refine List.ext_getElem (by simp [wl_length]; omega) fun i h1 h2 => ?_
  have hi : i < m := by simpa [wl_length] using h2
  have e2 : (wl M m)[i] = M / 2 ^ (64 * i) % 2 ^ 64 := by simp [wl]
  rw [e2]
  by_cases hlt : i < hs.length
  · rw [List.getElem_append_left hlt]
    have := congrArg (fun l => l.getD i 0) h.eq
    simp only [wl_getD _ _ _ hlt] at this
    rw [← this]
    simp [List.getD, hlt]
  · rw [List.getElem_append_right (by omega)]
    have hM : M < 2 ^ (64 * i) := Nat.lt_of_lt_of_le h.lt (Nat.pow_le_pow_right (by omega) (by omega))
    rw [Nat.div_eq_of_lt hM]
    simp

/-- With a further member the words are still no more than asked for. -/
theorem canon_with (hs : List Nat) (M j m : Nat) (h : Canon hs M) (hm : m = max hs.length (j / 64 + 1)) : Canon (wl (M ||| 2 ^ j) m) (M ||| 2 ^ j) := by
  have hM : M < 2 ^ (64 * m) := Nat.lt_of_lt_of_le h.lt (Nat.pow_le_pow_right (by omega) (by omega))
  refine ⟨by rw [wl_length], ?_, Or.inr ?_⟩
  · rw [wl_length]
    exact Nat.or_lt_two_pow hM (Nat.pow_lt_pow_right (by omega) (by omega))
  · rw [wl_length]
    intro h0
    have hz : ∀ x, (M ||| 2 ^ j).testBit (x + 64 * (m - 1)) = false := fun x => by
      have := congrArg (fun n => n.testBit x) h0
      simpa [Nat.testBit_div_two_pow] using this
    by_cases hj : m = j / 64 + 1
    · have := hz (j % 64)
      rw [show j % 64 + 64 * (m - 1) = j by omega, Nat.testBit_or, Nat.testBit_two_pow] at this
      simp at this
    · rcases h.last with e | e
      · omega
      · refine e (Nat.eq_of_testBit_eq fun x => ?_)
        have := hz x
        rw [Nat.testBit_or] at this
        rw [Nat.testBit_div_two_pow, show hs.length - 1 = m - 1 by omega]
        simp at this
        simp [this.1]

/-- With's frame: the set in a block of its own, the result in the next one. -/
structure Fr (w w1 : World) (lo : Nat) (v : Value) : Prop where
  c0 : w1.cell? ⟨w.heap.size, 0, none⟩ = some (.int .u64 lo)
  c1 : w1.cell? ⟨w.heap.size, 1, none⟩ = some v
  r0 : w1.cell? ⟨w.heap.size + 1, 0, none⟩ = some (.int .u64 0)
  r1 : w1.cell? ⟨w.heap.size + 1, 1, none⟩ = some (.slice none 0 0)
  f0 : w1.frozen? ⟨w.heap.size + 1, 0, none⟩ = false
  f1 : w1.frozen? ⟨w.heap.size + 1, 1, none⟩ = false
  lt : w.heap.size + 1 < w1.heap.size
  kept : Kept (fun _ => False) w w1

theorem Fr.new {w w1 : World} {lo : Nat} {a : Option Addr} {n c : Nat} (h : Kept (fun _ => False) ((w.alloc (.cells #[.int .u64 lo, .slice a n c] 56)).alloc (.cells #[.int .u64 0, .slice none 0 0] 56)) w1) : Fr w w1 lo (.slice a n c) := by
  have hs : ((w.alloc (.cells #[.int .u64 lo, .slice a n c] 56)).alloc (.cells #[.int .u64 0, .slice none 0 0] 56)).heap.size = w.heap.size + 2 := by simp
  exact ⟨(h.cell (p := ⟨w.heap.size, 0, none⟩) (by rw [hs]; exact Nat.lt_succ_of_lt (Nat.lt_succ_self _)) (fun h => h)).trans (by go_simp),
    (h.cell (p := ⟨w.heap.size, 1, none⟩) (by rw [hs]; exact Nat.lt_succ_of_lt (Nat.lt_succ_self _)) (fun h => h)).trans (by go_simp),
    (h.cell (p := ⟨w.heap.size + 1, 0, none⟩) (by rw [hs]; exact Nat.lt_succ_self _) (fun h => h)).trans (by go_simp),
    (h.cell (p := ⟨w.heap.size + 1, 1, none⟩) (by rw [hs]; exact Nat.lt_succ_self _) (fun h => h)).trans (by go_simp),
    (h.frozen (p := ⟨w.heap.size + 1, 0, none⟩) (by rw [hs]; exact Nat.lt_succ_self _) (fun h => h)).trans (by go_simp),
    (h.frozen (p := ⟨w.heap.size + 1, 1, none⟩) (by rw [hs]; exact Nat.lt_succ_self _) (fun h => h)).trans (by go_simp),
    Nat.lt_of_lt_of_le (by rw [hs]; exact Nat.lt_succ_self _) h.size,
    ((Kept.alloc (fun _ => False) w _).then (Kept.alloc (fun _ => False) _ _)).trans h (fun _ _ h => h) (fun _ _ h => h)⟩

theorem Fr.drew {w w1 : World} {lo : Nat} {v : Value} (h : Fr w w1 lo v) : Fr w w1.drew lo v := ⟨h.c0, h.c1, h.r0, h.r1, h.f0, h.f1, h.lt, h.kept.drew⟩

theorem Fr.keptS {w a b : World} {lo : Nat} {v : Value} {S : Nat → Prop} (h : Fr w a lo v) (hk : Kept S a b) (hn : ∀ k, k ≤ w.heap.size + 1 → ¬ S k) : Fr w b lo v := by
  have l0 : w.heap.size < a.heap.size := Nat.lt_of_succ_lt h.lt
  have n0 := hn w.heap.size (Nat.le_succ _)
  have n1 := hn (w.heap.size + 1) (Nat.le_refl _)
  exact ⟨(hk.cell (p := ⟨w.heap.size, 0, none⟩) l0 n0).trans h.c0, (hk.cell (p := ⟨w.heap.size, 1, none⟩) l0 n0).trans h.c1,
    (hk.cell (p := ⟨w.heap.size + 1, 0, none⟩) h.lt n1).trans h.r0, (hk.cell (p := ⟨w.heap.size + 1, 1, none⟩) h.lt n1).trans h.r1,
    (hk.frozen (p := ⟨w.heap.size + 1, 0, none⟩) h.lt n1).trans h.f0, (hk.frozen (p := ⟨w.heap.size + 1, 1, none⟩) h.lt n1).trans h.f1,
    Nat.lt_of_lt_of_le h.lt hk.size, h.kept.trans hk (fun _ _ h => h) (fun i hi e => hn i (by omega) e)⟩

theorem Fr.fin {w w1 : World} {lo : Nat} {v : Value} (h : Fr w w1 lo v) (x y : Value) : Kept (fun _ => False) w ((w1.setCell ⟨w.heap.size + 1, 0, none⟩ x).setCell ⟨w.heap.size + 1, 1, none⟩ y) :=
  h.kept.trans ((Kept.setCell (fun k => k = w.heap.size + 1) _ ⟨w.heap.size + 1, 0, none⟩ x rfl).trans (Kept.setCell (fun k => k = w.heap.size + 1) _ ⟨w.heap.size + 1, 1, none⟩ y rfl) (fun _ _ h => h) (fun _ _ h => h)) (fun _ _ h => h) (fun i hi e => by omega)

set_option maxRecDepth 100000 in
set_option maxHeartbeats 1600000 in
theorem with_same (w : World) (v : Value) (M i : Nat) (h : SetV w v M) (hi : i ≤ 4095) (hb : M.testBit i = true) :
    Calls Tryd.prog 58 #[v, .int .i64 i] w fun e w' => e = .returned v ∧ Kept (fun _ => False) w w' := by
  obtain ⟨hv, hs, rfl, hw, hc, hnil⟩ := h.ex
  obtain ⟨a, c, rfl⟩ := hw.form
  have HH := Lib.hid (fun (W : World) (kw : Kept (fun _ => False) w W) => has_any W _ M i ⟨_, _, rfl, hw.kept kw (fun _ _ h => h), hc, hnil⟩ hi)
  rw [hb] at HH
  clear hw hc hnil h hb
  generalize hs.length = n at HH ⊢
  generalize M % 2 ^ 64 = lo at HH ⊢
  have KA := Lib.hid ((Kept.alloc (fun _ => False) w (.cells #[.int .u64 lo, .slice a n c] 56)).then (Kept.alloc (fun _ => False) _ (.cells #[.int .u64 0, .slice none 0 0] 56)))
  go_enter Tryd.func58, Tryd.ntmps58
  go_wp2_with fail
  refine (possible_yes _ _ (by omega) (by omega)).mono ?_
  rintro e w1 ⟨rfl, rfl⟩
  go_wp2_with fail
  refine (HH.out _ KA.out).mono ?_
  rintro e w1 ⟨rfl, hk1⟩
  have fr := Fr.new hk1
  clear hk1
  have FR := Lib.hid fr
  obtain ⟨c0, c1, r0, r1, f0, f1, lt, _⟩ := fr
  go_wp2
  refine bodyPost_ret (v := .agg #[.int .u64 lo, .slice a n c]) (by simp [results, Tryd.results58, go_sem, r0, r1]) rfl ⟨rfl, FR.out.fin _ _⟩

set_option maxRecDepth 100000 in
set_option maxHeartbeats 1600000 in
theorem with_low (w : World) (v : Value) (M i : Nat) (h : SetV w v M) (hi : i < 64) (hb : M.testBit i = false) :
    Calls Tryd.prog 58 #[v, .int .i64 i] w fun e w' => ∃ v', e = .returned v' ∧ SetV w' v' (M ||| 2 ^ i) ∧ (∀ k, setBlk v' k → setBlk v k ∨ w.heap.size ≤ k) ∧ Kept (fun _ => False) w w' := by
  obtain ⟨hv, hs, rfl, hw, hc, hnil⟩ := h.ex
  obtain ⟨a, c, rfl⟩ := hw.form
  have HH := Lib.hid (fun (W : World) (kw : Kept (fun _ => False) w W) => has_any W _ M i ⟨_, _, rfl, hw.kept kw (fun _ _ h => h), hc, hnil⟩ (by omega))
  rw [hb] at HH
  obtain ⟨b, hbb⟩ : ∃ b, b = 2 ^ (i % 64) := ⟨_, rfl⟩
  have HB := Lib.hid (fun (W : World) => bit_any W i b (by omega) hbb)
  have HGOAL := Lib.hid (fun (z : Nat) (hz : z = (M % 2 ^ 64) ||| b) (W : World) (kw : Kept (fun _ => False) w W) => (show SetV W (.agg #[.int .u64 z, .slice a hs.length c]) (M ||| 2 ^ i) from ⟨_, hs, by rw [or_low_mod M i hi, hz, hbb, Nat.mod_eq_of_lt hi], hw.kept kw (fun _ _ h => h), by rw [or_low_div M i hi]; exact hc, hnil⟩))
  have hlo : M % 2 ^ 64 < 2 ^ 64 := Nat.mod_lt _ (by decide)
  have hbl : b < 2 ^ 64 := by rw [hbb]; exact Nat.pow_lt_pow_right (by omega) (Nat.mod_lt _ (by omega))
  clear hw hc hnil h hb hbb
  generalize hs.length = n at HH HGOAL ⊢
  generalize M % 2 ^ 64 = lo at HH HGOAL hlo ⊢
  obtain ⟨z, hz⟩ : ∃ z, z = lo ||| b := ⟨_, rfl⟩
  have hxo : bits .or .u64 (lo : Int) (b : Int) = (z : Int) := by rw [hz]; exact u64_or_nat _ _ (by omega) (by omega)
  have HZ := Lib.hid hz
  have hi' : (i : Int) < 64 := by omega
  have hi0 : (i : Int) ≤ 4095 := by omega
  clear hz hlo hbl
  have KA := Lib.hid ((Kept.alloc (fun _ => False) w (.cells #[.int .u64 lo, .slice a n c] 56)).then (Kept.alloc (fun _ => False) _ (.cells #[.int .u64 0, .slice none 0 0] 56)))
  go_enter Tryd.func58, Tryd.ntmps58
  go_wp2_with fail
  refine (possible_yes _ _ (by omega) (by omega)).mono ?_
  rintro e w1 ⟨rfl, rfl⟩
  go_wp2_with fail
  refine (HH.out _ KA.out).mono ?_
  rintro e w1 ⟨rfl, hk1⟩
  have fr := Fr.new hk1
  clear hk1
  have FR := Lib.hid fr
  obtain ⟨c0, c1, r0, r1, f0, f1, lt, _⟩ := fr
  go_wp2_with fail
  go_still_tail 8, (by kernel_rfl)
  still_call ((HB.out _).mono (fun _ _ h => ⟨h.1, h.2.symm⟩))
  repeat still_step
  refine wpStill_nil ?_
  change wpList _ _ _ _ _ w1.drew
  have FR2 := Lib.hid FR.out.drew
  clear c0 c1 r0 r1 f0 f1 lt FR
  generalize w1.drew = w2 at FR2 ⊢
  obtain ⟨c0, c1, r0, r1, f0, f1, lt, _⟩ := FR2.out
  go_wp2
  refine bodyPost_ret (v := .agg #[.int .u64 z, .slice a n c]) (by simp [results, Tryd.results58, go_sem, r0, r1]) rfl ⟨_, rfl, HGOAL.out z HZ.out _ (FR2.out.fin _ _), ?_, FR2.out.fin _ _⟩
  rintro k ⟨lo', hv', he, hb⟩
  cases he
  exact Or.inl ⟨_, _, rfl, hb⟩

theorem high_fin (w w3 : World) (g q m lo z N : Nat) (hmod : N % 2 ^ 64 = lo) (hcan : Canon (wl (N / 2 ^ 64) m) (N / 2 ^ 64)) (h1 : 1 ≤ m) (h2 : m ≤ 63) (lt3 : g < w3.heap.size) (lt1 : w.heap.size + 1 < g)
    (hk : Kept (fun _ => False) w w3) (ho : (w3.setCell ⟨g, q, none⟩ (.int .u64 (z : Int))).ownsRow g 53 1 (.slice (some ⟨g, 0, none⟩) m m) m (wv (wl (N / 2 ^ 64) m))) (W : World) (hK : Kept (fun k => k = w.heap.size + 1) (w3.setCell ⟨g, q, none⟩ (.int .u64 (z : Int))) W) :
    SetV W (.agg #[.int .u64 lo, .slice (some ⟨g, 0, none⟩) m m]) N ∧ (∀ k, setBlk (.agg #[.int .u64 lo, .slice (some ⟨g, 0, none⟩) m m]) k → w.heap.size ≤ k) ∧ Kept (fun _ => False) w W := by
  have hsz := (Kept.setCell (fun k => k = g) w3 ⟨g, q, none⟩ (.int .u64 (z : Int)) rfl).size
  refine ⟨⟨_, wl (N / 2 ^ 64) m, by rw [hmod], Or.inr ⟨g, 0, m, by rw [wl_length], by rw [wl_length]; exact Nat.le_refl _, by unfold maxLen; omega, ?_, ?_⟩, hcan, ?_⟩, ?_, ?_⟩
  · exact Nat.lt_of_lt_of_le (Nat.lt_of_lt_of_le lt3 hsz) hK.size
  · intro j hj
    have hj' := hj
    rw [wl_length] at hj'
    rw [Nat.zero_add, hK.cell (p := ⟨g, j, none⟩) (Nat.lt_of_lt_of_le lt3 hsz) (fun e => by have e : g = w.heap.size + 1 := e; omega), ho.cellAt j (by omega), wv_getD _ _ hj]
  · intro e
    have := congrArg List.length e
    rw [wl_length] at this
    simp at this
    omega
  · rintro k ⟨lo', hv', he, hb⟩
    cases he
    simp [Value.ownBlock] at hb
    omega
  · exact (hk.trans (Kept.setCell (fun k => k = g) w3 ⟨g, q, none⟩ (.int .u64 (z : Int)) rfl) (fun _ _ h => h) (fun i hi e => by omega)).trans hK (fun _ _ h => h) (fun i hi e => by omega)

set_option maxRecDepth 100000 in
set_option maxHeartbeats 1600000 in
theorem with_high (w : World) (v : Value) (M i : Nat) (h : SetV w v M) (hS : Small M) (h64 : 64 ≤ i) (hi : i ≤ 4095) (hb : M.testBit i = false) :
    Calls Tryd.prog 58 #[v, .int .i64 i] w fun e w' => ∃ v', e = .returned v' ∧ SetV w' v' (M ||| 2 ^ i) ∧ (∀ k, setBlk v' k → setBlk v k ∨ w.heap.size ≤ k) ∧ Kept (fun _ => False) w w' := by
  obtain ⟨i0, hin, hz0, hz1, hz2⟩ := info_parts info_u64
  obtain ⟨hv, hs, rfl, hw, hc, hnil⟩ := h.ex
  obtain ⟨a, c, rfl⟩ := hw.form
  have hsm := hc.small hS
  have HH := Lib.hid (fun (W : World) (kw : Kept (fun _ => False) w W) => has_any W _ M i ⟨_, _, rfl, hw.kept kw (fun _ _ h => h), hc, hnil⟩ (by omega))
  rw [hb] at HH
  obtain ⟨b, hbb⟩ : ∃ b, b = 2 ^ (i % 64) := ⟨_, rfl⟩
  have HB := Lib.hid (fun (W : World) => bit_any W i b (by omega) hbb)
  obtain ⟨q, hq⟩ : ∃ q, i / 64 = q + 1 := ⟨i / 64 - 1, by omega⟩
  obtain ⟨m, hm⟩ : ∃ m, m = max hs.length (q + 1) := ⟨_, rfl⟩
  have hbl : b < 2 ^ 64 := by rw [hbb]; exact Nat.pow_lt_pow_right (by omega) (Nat.mod_lt _ (by omega))
  obtain ⟨y, hy⟩ : ∃ y, y = (wl (M / 2 ^ 64) m).getD q 0 := ⟨_, rfl⟩
  have hyl : y < 2 ^ 64 := by rw [hy, wl_getD _ _ _ (by omega)]; exact Nat.mod_lt _ (by decide)
  obtain ⟨z, hz⟩ : ∃ z, z = y ||| b := ⟨_, rfl⟩
  have hxo : bits .or .u64 (y : Int) (b : Int) = (z : Int) := by rw [hz]; exact u64_or_nat _ _ (by omega) (by omega)
  have hfin : (wl (M / 2 ^ 64) m).set q z = wl ((M ||| 2 ^ i) / 2 ^ 64) m := by
    have := wl_or (M / 2 ^ 64) m (i - 64) (by omega)
    rw [show (i - 64) / 64 = q by omega, show (i - 64) % 64 = i % 64 by omega, ← hbb, ← hy, ← hz] at this
    rw [this, or_high_div M i h64]
  have hcan : Canon (wl ((M ||| 2 ^ i) / 2 ^ 64) m) ((M ||| 2 ^ i) / 2 ^ 64) := by
    rw [or_high_div M i h64]
    exact canon_with hs _ (i - 64) m hc (by rw [hm]; omega)
  have hmod := or_high_mod M i h64
  have hroom := wl_room hs _ m hc (by omega)
  have HFIN := Lib.hid hfin; have HCAN := Lib.hid hcan; have HMOD := Lib.hid hmod; have HROOM := Lib.hid hroom; have HY := Lib.hid hy
  have HW := Lib.hid hw; have HM := Lib.hid hm
  have hE : ((i : Int).tdiv 64 = (q : Int) + 1 ∧ (i : Int) / 64 = (q : Int) + 1) ∧ m ≤ 63 ∧ q < m ∧ hs.length ≤ m ∧ ((hs.length < q + 1 ∧ m = q + 1) ∨ (¬ hs.length < q + 1 ∧ m = hs.length)) := ⟨⟨by rw [Int.tdiv_eq_ediv_of_nonneg (by omega)]; omega, by omega⟩, by omega, by omega, by omega, by omega⟩
  have HE := Lib.hid hE; clear hE
  have hi1 : decide ((i : Int) < 64) = false := by simp; omega
  have hi2 : (64 : Int) ≤ i := by omega
  have hi0 : (i : Int) ≤ 4095 := by omega
  clear hw hc hnil h hb hbb hbl hm h64 hS hq hy hyl hz hfin hcan hmod hroom
  obtain ⟨n, hn⟩ : ∃ n, n = hs.length := ⟨_, rfl⟩
  obtain ⟨lo, hlo⟩ : ∃ lo, lo = M % 2 ^ 64 := ⟨_, rfl⟩
  rw [← hn] at HH HE HW HM hsm HROOM ⊢
  rw [← hlo] at HH HMOD ⊢
  have HN := Lib.hid hn; clear hn hlo
  have KA := Lib.hid ((Kept.alloc (fun _ => False) w (.cells #[.int .u64 lo, .slice a n c] 56)).then (Kept.alloc (fun _ => False) _ (.cells #[.int .u64 0, .slice none 0 0] 56)))
  obtain ⟨⟨e1, e2⟩, e4, e5, e6, hcs⟩ := HE.out
  obtain ⟨CS, hCS⟩ : ∃ CS, CS = wv hs := ⟨_, rfl⟩
  have csl : CS.length = n := by rw [hCS, wv_length, HN.out]
  have HCS := Lib.hid hCS; have HCL := Lib.hid csl; clear hCS csl
  obtain ⟨ZS, hZS⟩ : ∃ ZS, ZS = wv (List.replicate m 0) := ⟨_, rfl⟩
  have zsl : ZS.length = m := by rw [hZS, wv_length, List.length_replicate]
  have hspl : splice ZS 0 CS = wv (wl (M / 2 ^ 64) m) := by
    rw [← HROOM.out, hZS, splice, HCL.out, HCS.out]
    simp [wv]
  have HZS := Lib.hid hZS; have HZL := Lib.hid zsl; have HSPL := Lib.hid hspl; clear hZS zsl hspl
  rcases hcs with ⟨hnk, hmk⟩ | ⟨hnk, hmk⟩
  all_goals
    have HMK := Lib.hid hmk; clear hmk
    go_enter Tryd.func58, Tryd.ntmps58
    go_wp2_with fail
    refine (possible_yes _ _ (by omega) (by omega)).mono ?_
    rintro e w1 ⟨rfl, rfl⟩
    go_wp2_with fail
    refine (HH.out _ KA.out).mono ?_
    rintro e w1 ⟨rfl, hk1⟩
    have fr := Fr.new hk1
    clear hk1
    have FR := Lib.hid fr
    obtain ⟨c0, c1, r0, r1, f0, f1, lt, _⟩ := fr
    go_wp2_with (refine wpList_make_full _ rfl _ _ _ rfl w1.heap.size 53 i0 _ 1 Tryd.underlying54 hin hz0 hz1 _ _ _ _ m rfl rfl (by have := HMK.out; omega) (by have := HMK.out; omega) (by rw [hz2]; omega) (by unfold maxLen; omega) (by simp) ?_)
    intro w2 hown2 hgrow2
    rw [wv_zero, ← HZS.out] at hown2
    have hb2 : Below w1.heap.size w1 w2 := (Below.refl _ w1).grown hgrow2 (Nat.le_refl _) (fun k e => by cases e)
    have fr2 := FR.out.keptS (Kept.ofBelow (fun _ => False) hb2) (fun _ _ h => h)
    have hg2 : w2.heap[w1.heap.size]? = some (.cells ZS.toArray 53 (0, 0)) := by
      obtain ⟨_, hh⟩ := hown2
      rcases hh with ⟨h, _⟩ | ⟨g', cap', cur, h, _, hg', _, _, hsz, htk⟩
      · cases h
      · cases h
        rw [hg']
        congr 2
        rw [← htk, List.take_of_length_le (by simp [hsz])]
    have hpos : 0 < CS.length → (some (⟨w1.heap.size, 0, none⟩ : Addr) = some ⟨w1.heap.size, 0, none⟩) ∧ ∃ ad, a = some ad ∧ ∀ j v, CS[j]? = some v → w2.cell? (ad.add j) = some v := by
      intro h0
      refine ⟨rfl, ?_⟩
      have hlen := HCL.out
      rcases HW.out with ⟨h1, h2⟩ | ⟨g, off, cap, h1, h2, h3, h4, h5⟩
      · have := HN.out; rw [h2] at this; simp at this; omega
      · cases h1
        refine ⟨_, rfl, fun j v hj => ?_⟩
        have hjl : j < hs.length := by
          have := (List.getElem?_eq_some_iff.1 hj).1
          rw [← HN.out]; omega
        rw [HCS.out, wv_getD _ _ hjl] at hj
        have hadd : (⟨g, off, none⟩ : Addr).add j = ⟨g, off + j, none⟩ := by unfold Addr.add; split <;> simp_all
        rw [hadd, fr2.kept.cell (p := ⟨g, off + j, none⟩) h4 (fun h => h), h5 j hjl]
        exact hj
    have h1c : ∀ v ∈ CS, v.oneCell' = true := by
      intro v hv
      rw [HCS.out] at hv
      simp only [wv, List.mem_map] at hv
      obtain ⟨x, _, rfl⟩ := hv
      rfl
    have HPOS := Lib.hid hpos; have H1C := Lib.hid h1c; have HB2 := Lib.hid hb2; have HG2 := Lib.hid hg2; have HL1 := Lib.hid lt
    clear hpos h1c hb2 hg2 hown2 hgrow2 c0 c1 r0 r1 f0 f1 lt
    obtain ⟨c0, c1, r0, r1, f0, f1, lt, _⟩ := fr2
    have hmin : CS.length = Nat.min n m := HCL.out.trans (Nat.min_eq_left e6).symm
    have HMIN := Lib.hid hmin; clear hmin
    go_wp2_with (refine wpList_copy_splice (o := ⟨some 35, _, _, _, _, _⟩) rfl (.tmp 32) (.tmp 34) 54 54 rfl 53 rfl rfl (some ⟨w1.heap.size, 0, none⟩) a m m n c rfl rfl w1.heap.size 0 ZS 53 HG2.out CS HMIN.out HPOS.out (by rw [HCL.out, HZL.out]; omega) H1C.out w1.heap.size w1 HB2.out (Nat.le_refl _) ?_)
    intro w3 hg3 hb3
    have fr3 := FR.out.keptS (Kept.ofBelow (fun _ => False) hb3) (fun _ _ h => h)
    have lt3 : w1.heap.size < w3.heap.size := (Array.getElem?_eq_some_iff.1 hg3.out).1
    have own3 : w3.ownsRow w1.heap.size 53 1 (.slice (some ⟨w1.heap.size, 0, none⟩) m m) m (wv (wl (M / 2 ^ 64) m)) := by
      refine ⟨by rw [wv_length, wl_length, Nat.mul_one], Or.inr ⟨_, m, _, rfl, Nat.le_refl _, hg3.out, Nat.le_refl _, by unfold maxLen; omega, ?_, ?_⟩⟩
      · rw [HSPL.out]; simp [wv, wl_length]
      · change List.take (m * 1) (splice ZS 0 CS) = _
        rw [HSPL.out, List.take_of_length_le (by rw [wv_length, wl_length]; omega)]
    have lt1 := HL1.out
    have hst := own3.stored q (.int .u64 (z : Int))
    rw [wv_set, HFIN.out] at hst
    have HGOAL := Lib.hid (high_fin w w3 w1.heap.size q m lo z (M ||| 2 ^ i) HMOD.out HCAN.out (by omega) e4 lt3 lt1 fr3.kept hst.1)
    have cq : w3.cell? ⟨w1.heap.size, q, none⟩ = some (.int .u64 y) := by
      rw [own3.cellAt q (by omega), wv_getD _ _ (by rw [wl_length]; exact e5), ← HY.out]
    have fq : w3.frozen? ⟨w1.heap.size, q, none⟩ = false := own3.frozenAt q
    clear HPOS H1C HB2 HG2 HL1 HMIN hg3 hb3 FR own3 hst HFIN HMOD HCAN HROOM HW HY HCS HCL HZS HZL HSPL c0 c1 r0 r1 f0 f1 lt lt3
    generalize w1.heap.size = g at *
    have ne0 : ¬ w.heap.size = g := by omega
    have ne1 : ¬ w.heap.size + 1 = g := by omega
    have ne2 : ¬ g = w.heap.size := by omega
    have ne3 : ¬ g = w.heap.size + 1 := by omega
    have q0 : (0 : Int) ≤ q := by omega
    have q1 : (q : Int) < (m : Int) := by omega
    have FR3 := Lib.hid fr3
    obtain ⟨c0, c1, r0, r1, f0, f1, lt, _⟩ := fr3
    obtain ⟨hw1, hw2⟩ : IntKind.i64.wrap (q : Int) = (q : Int) ∧ IntKind.i64.wrap ((q : Int) + 1) = (q : Int) + 1 := ⟨IntWalk.i64_in _ (by omega), IntWalk.i64_in _ (by omega)⟩
    go_wp2_with fail
    go_region_law ((go_simp; go_at_call 65; refine (HB.out _).mono ?_; rintro e w' ⟨rfl, rfl⟩))
    all_goals
      have fr4 := FR3.out.keptS ((Kept.setCell (fun k => k = g) w3 ⟨g, q, none⟩ (.int .u64 (z : Int)) rfl).drew) (fun k hk e => by omega)
      have HG4 := Lib.hid (fun (W : World) (hk : Kept (fun k => k = w.heap.size + 1) ((w3.setCell ⟨g, q, none⟩ (.int .u64 (z : Int))).drew) W) => HGOAL.out W ((Kept.refl (fun k => k = w.heap.size + 1) (w3.setCell ⟨g, q, none⟩ (.int .u64 (z : Int)))).drew.trans hk (fun _ _ h => h) (fun _ _ h => h)))
      clear c0 c1 r0 r1 f0 f1 lt cq fq FR3 HGOAL
      generalize (w3.setCell ⟨g, q, none⟩ (.int .u64 (z : Int))).drew = w4 at fr4 HG4 ⊢
      have HF4 := Lib.hid (HG4.out _ ((Kept.setCell (fun k => k = w.heap.size + 1) w4 ⟨w.heap.size + 1, 0, none⟩ (.int .u64 lo) rfl).trans (Kept.setCell (fun k => k = w.heap.size + 1) _ ⟨w.heap.size + 1, 1, none⟩ (.slice (some ⟨g, 0, none⟩) m m) rfl) (fun _ _ h => h) (fun _ _ h => h)))
      obtain ⟨c0, c1, r0, r1, f0, f1, lt, _⟩ := fr4
      go_wp2
      refine bodyPost_ret (v := .agg #[.int .u64 lo, .slice (some ⟨g, 0, none⟩) m m]) (by simp [results, Tryd.results58, go_sem, r0, r1]) rfl ⟨_, rfl, HF4.out.1, fun k hk => Or.inr (HF4.out.2.1 k hk), HF4.out.2.2⟩

/-- With, of any member. -/
theorem with_any (w : World) (v : Value) (M i : Nat) (h : SetV w v M) (hS : Small M) (hi : i ≤ 4095) :
    Calls Tryd.prog 58 #[v, .int .i64 i] w fun e w' => ∃ v', e = .returned v' ∧ SetV w' v' (M ||| 2 ^ i) ∧ (∀ k, setBlk v' k → setBlk v k ∨ w.heap.size ≤ k) ∧ Kept (fun _ => False) w w' := by
  cases hb : M.testBit i with
  | true =>
    refine (with_same w v M i h hi hb).mono ?_
    rintro e w' ⟨rfl, hk⟩
    obtain ⟨hv, hs, e1, hw, hc, hnil⟩ := h.ex
    exact ⟨v, rfl, ⟨⟨hv, hs, by rw [or_same M i hb]; exact e1, hw.kept hk (fun _ _ h => h), by rw [or_same M i hb]; exact hc, hnil⟩⟩, fun k hk => Or.inl hk, hk⟩
  | false =>
    by_cases h64 : i < 64
    · exact with_low w v M i h h64 hb
    · exact with_high w v M i h hS (by omega) hi hb

theorem small_with {M i : Nat} (h : Small M) (hi : i ≤ 4095) : Small (M ||| 2 ^ i) :=
  fun e he => Nat.or_lt_two_pow (h e he) (Nat.pow_lt_pow_right (by omega) (by omega))

end Go.Proofs.YtccanbjnbmihgaaDoor
