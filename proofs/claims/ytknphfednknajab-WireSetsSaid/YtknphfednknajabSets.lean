/-
  arbaclaw02.WireSets returns true for any bytes and any limit; nothing that was there is changed.
-/
import Derived.Test.YtknphfednknajabArg
import Derived.Test.YtknphfednknajabAwake
import Derived.Test.YtknphfednknajabMembers
import Derived.Test.YtknphfednknajabEqual
import Derived.Test.YtknphfednknajabBackM
import Derived.Deep.RegionHeld3
namespace Go.Proofs.Ytknphfednknajab
open Go.RowKit

theorem rd_slice {w : World} {rb : Nat} {v : Value} {xs : List Nat} {err : Int} (h : Rd w rb v xs err) : ∃ a c, v = .slice a xs.length c := by
  rcases h.reads with ⟨h, h2⟩ | ⟨g, off, cap, h, _⟩
  · exact ⟨none, 0, by rw [h, h2]; rfl⟩
  · exact ⟨_, _, h⟩

/-- What lies in memory when all calls of the law's first half are done: the list, the two sets and the variables that hold them, the writer, the reader. -/
structure SetsAt (w W : World) (lv sh gh wv rv : Value) (sb gb wb rb : Nat) (ms : List Int) (M G lo glo : Nat) (E left : List Nat) (er : Int) : Prop where
  k : Kept (fun _ => False) w W
  l : Ints W lv ms
  s : SetV W (.agg #[.int .u64 lo, sh]) M
  s0 : W.cell? ⟨sb, 0, none⟩ = some (.int .u64 lo)
  s1 : W.cell? ⟨sb, 1, none⟩ = some sh
  g : SetV W (.agg #[.int .u64 glo, gh]) G
  g0 : W.cell? ⟨gb, 0, none⟩ = some (.int .u64 glo)
  g1 : W.cell? ⟨gb, 1, none⟩ = some gh
  wr : Wr W wb wv w.heap.size E
  rd : Rd W rb rv left er

theorem SetsAt.next {w W W' : World} {lv sh gh wv rv : Value} {sb gb wb rb : Nat} {ms : List Int} {M G lo glo : Nat} {E left : List Nat} {er : Int} (h : SetsAt w W lv sh gh wv rv sb gb wb rb ms M G lo glo E left er) (hk : Kept (fun _ => False) W W') :
    SetsAt w W' lv sh gh wv rv sb gb wb rb ms M G lo glo E left er :=
  ⟨h.k.then hk, h.l.kept hk (fun _ _ h => h), h.s.kept hk (fun _ _ h => h), (hk.cell (World.block_lt_of_cell? W _ h.s0) (fun h => h)).trans h.s0, (hk.cell (World.block_lt_of_cell? W _ h.s1) (fun h => h)).trans h.s1,
    h.g.kept hk (fun _ _ h => h), (hk.cell (World.block_lt_of_cell? W _ h.g0) (fun h => h)).trans h.g0, (hk.cell (World.block_lt_of_cell? W _ h.g1) (fun h => h)).trans h.g1, h.wr.kept hk (fun h => h) (fun _ _ h => h), h.rd.kept hk (fun h => h) (fun _ _ h => h)⟩

set_option maxRecDepth 100000 in
set_option maxHeartbeats 3200000 in
theorem sets_any (v : Value) (xs : List Nat) (most : Nat) (w : World) (hp : InBytes w v xs) (hmo : most < 65536) :
    Calls Try.prog 6 #[v, .int .u16 most] w fun e w' => e = .returned (.bool true) ∧ Below w.heap.size w w' := by
  have HP := Lib.hid hp; clear hp
  have hmw : IntKind.i64.wrap (most : Int) = (most : Int) := IntWalk.i64_in _ (by omega)
  go_enter Try.func6, Try.ntmps6
  go_wp2_with fail
  refine (awake_any w).mono ?_
  rintro e w0 ⟨rfl, hk0⟩
  go_wp2_with fail
  refine (members_any w0 v xs (HP.out.reads.kept hk0 (fun _ _ h => h)) HP.out.byte).mono ?_
  rintro e w1 ⟨lv, rfl, hl1, hlb, hk1⟩
  have hin := membersOf_in HP.out.byte
  generalize membersOf xs = ms at hl1 hin
  have HIN := Lib.hid hin; clear hin hlb
  have hsm := maskOf_small ms
  have HSM := Lib.hid hsm; clear hsm
  go_wp2_with fail
  refine (of_any w1 lv ms hl1).mono ?_
  rintro e w2 ⟨sv, rfl, hs2, hsb, hk2⟩
  obtain ⟨M, hM⟩ : ∃ M, M = maskOf ms := ⟨_, rfl⟩
  rw [← hM] at hs2 HSM
  have HM := Lib.hid hM; clear hM hsb
  obtain ⟨lo, sa, sn, sc, hsf⟩ := hs2.form
  subst hsf
  have hkA : Kept (fun _ => False) w2 (w2.alloc (.cells #[.int .u64 lo, .slice sa sn sc] 53)) := Kept.alloc _ _ _
  have hl2 := (hl1.kept hk2 (fun _ _ h => h)).kept hkA (fun _ _ h => h)
  have hs2a := hs2.kept hkA (fun _ _ h => h)
  have hkw2 := ((hk0.then hk1).then hk2).then hkA
  have b0 : (w2.alloc (.cells #[.int .u64 lo, .slice sa sn sc] 53)).cell? ⟨w2.heap.size, 0, none⟩ = some (.int .u64 lo) := by go_simp
  have b1 : (w2.alloc (.cells #[.int .u64 lo, .slice sa sn sc] 53)).cell? ⟨w2.heap.size, 1, none⟩ = some (.slice sa sn sc) := by go_simp
  obtain ⟨sb, hsb⟩ : ∃ sb, sb = w2.heap.size := ⟨_, rfl⟩
  go_wp2_with fail
  refine (newWriter_any _).mono ?_
  rintro e w3 ⟨rfl, hw3⟩
  generalize hWA : (w2.alloc (.cells #[.int .u64 lo, .slice sa sn sc] 53)) = wA at hkA hl2 hs2a hkw2 b0 b1 hw3 ⊢
  rw [← hsb] at b0 b1 ⊢
  have HSBE := Lib.hid hsb; clear hsb
  clear hWA hkA hs2 hl1 hk0 hk1 hk2
  have hwr3 : Wr w3 wA.heap.size (.slice none 0 0) w.heap.size [] := by rw [hw3]; exact wr_new wA w.heap.size hkw2.size
  have hk3 : Kept (fun _ => False) wA w3 := by rw [hw3]; exact Kept.alloc _ _ _
  have c30 := (hk3.cell (World.block_lt_of_cell? wA _ b0) (fun h => h)).trans b0
  have c31 := (hk3.cell (World.block_lt_of_cell? wA _ b1) (fun h => h)).trans b1
  have hsbl := World.block_lt_of_cell? wA _ b0
  simp at hsbl
  clear hw3
  go_wp2_with fail
  refine (wset_any _ M HSM.out w3 wA.heap.size _ w.heap.size [] hwr3 (hs2a.kept hk3 (fun _ _ h => h)) (by simp) (Nat.le_trans hkw2.size hk3.size)).mono ?_
  rintro e w4 ⟨rfl, wv, hwr4, hst4⟩
  rw [List.nil_append] at hwr4
  have hk4 : Kept (fun _ => False) wA w4 := hk3.trans hst4.kept (fun _ _ h => h) fun i hi h => by
    rcases h with h | h
    · omega
    · simp [blk, Value.ownBlock] at h
  have hkw4 := hkw2.then hk4
  have hl4 := hl2.kept hk4 (fun _ _ h => h)
  have hs4 := hs2a.kept hk4 (fun _ _ h => h)
  have c40 := (hk4.cell (World.block_lt_of_cell? wA _ b0) (fun h => h)).trans b0
  have c41 := (hk4.cell (World.block_lt_of_cell? wA _ b1) (fun h => h)).trans b1
  have hEl := bytesOf_length HSM.out
  have hEn := enc_len (v := (bytesOf M).length) (by omega)
  obtain ⟨E, hE⟩ : ∃ E, E = enc (bytesOf M).length ++ bytesOf M := ⟨_, rfl⟩
  have hEb : ∀ b ∈ E, b < 256 := fun b hb => by
    rw [hE] at hb
    rcases List.mem_append.1 hb with h | h
    · exact enc_byte _ b h
    · exact bytesOf_byte _ b h
  have hElen : E.length ≤ 600 := by rw [hE]; simp; omega
  rw [← hE] at hwr4
  have HE := Lib.hid hE; have HEB := Lib.hid hEb
  clear hE hEb hEl hEn hwr3 hl2 hs2a hkw2 b0 b1 hk3 c30 c31 hst4
  go_wp2_with fail
  refine (out_any w4 wA.heap.size wv E hwr4.reads (by omega) hwr4.cell).mono ?_
  rintro e w5 ⟨p, rfl, hf5, hk5⟩
  go_wp2_with fail
  refine (newReader_any w5 p E hf5.reads (by omega)).mono ?_
  rintro e w6 ⟨rb, rv, rfl, hrd6, hrb6, hrv6, hk6⟩
  have hk46 := hk5.then hk6
  have hs5 := hk5.size
  have hwl := hwr4.lt
  have hsl := hs4.lt
  have hll := hl4
  have hrlt6 := hrd6.lt
  obtain ⟨wb, hwb⟩ : ∃ wb, wb = wA.heap.size := ⟨_, rfl⟩
  rw [← hwb] at hwr4 hwl ⊢
  have HWBE := Lib.hid hwb; clear hwb
  go_wp2_with fail
  refine (rset_ok w6 rb rv E most hrd6 HEB.out).mono ?_
  rintro e w7 ⟨gv, rv7, rfl, hg7, hgb7, hrd7, hrv7, hk7⟩
  have hse := setS_enc (M := M) [] most HSM.out
  rw [List.append_nil, ← HE.out] at hse
  obtain ⟨G, left, er, hg7', hrd7', hres⟩ : ∃ G left er, SetV w7 gv G ∧ Rd w7 rb rv7 left er ∧ ((M ≠ 0 ∧ most < Nat.log2 M ∧ G = 0 ∧ left = E ∧ er = 2) ∨ ((M = 0 ∨ ¬ most < Nat.log2 M) ∧ G = M ∧ left = [] ∧ er = 0)) := by
    by_cases hc : M ≠ 0 ∧ (most : Int) < (Nat.log2 M : Int)
    · rw [if_pos hc] at hse
      rw [hse] at hg7 hrd7
      exact ⟨0, E, 2, hg7, hrd7, Or.inl ⟨hc.1, by omega, rfl, rfl, rfl⟩⟩
    · rw [if_neg hc] at hse
      rw [hse] at hg7 hrd7
      exact ⟨M, [], 0, hg7, hrd7, Or.inr ⟨by omega, rfl, rfl, rfl⟩⟩
  have HRES := Lib.hid hres
  clear hres hse hg7 hrd7
  obtain ⟨glo, ga, gn, gc, hgf⟩ := hg7'.form
  subst hgf
  have hs6 := hk6.size
  have hkB : Kept (fun _ => False) w7 (w7.alloc (.cells #[.int .u64 glo, .slice ga gn gc] 53)) := Kept.alloc _ _ _
  have b0 : (w7.alloc (.cells #[.int .u64 glo, .slice ga gn gc] 53)).cell? ⟨w7.heap.size, 0, none⟩ = some (.int .u64 glo) := by go_simp
  have b1 : (w7.alloc (.cells #[.int .u64 glo, .slice ga gn gc] 53)).cell? ⟨w7.heap.size, 1, none⟩ = some (.slice ga gn gc) := by go_simp
  have hst7 : SetsAt w (w7.alloc (.cells #[.int .u64 glo, .slice ga gn gc] 53)) lv (.slice sa sn sc) (.slice ga gn gc) wv rv7 sb w7.heap.size wb rb ms M G lo glo E left er := by
    have hk47 : Kept (fun k => k = rb) w4 w7 := hk46.trans hk7 (fun _ _ h => h.elim) (fun _ _ h => h)
    have hno : ∀ k, k < w4.heap.size → ¬ k = rb := fun k hk e => by omega
    have hs7 := hs4.kept hk47 (fun k hk => hno k (hs4.lt k hk))
    have hl7 := hl4.kept hk47 (fun k hk => hno k (by
      rcases hl4 with ⟨h, _⟩ | ⟨g, off, cap, h, _, _, hg, _⟩
      · rw [h] at hk; simp [Value.ownBlock] at hk
      · rw [h] at hk; simp [Value.ownBlock] at hk; omega))
    have hwr7 := hwr4.kept hk47 (hno _ hwl) (fun k hk => hno k (hwr4.own.lt k hk).2)
    have c70 := (hk47.cell (p := ⟨sb, 0, none⟩) (World.block_lt_of_cell? w4 _ c40) (hno _ (World.block_lt_of_cell? w4 _ c40))).trans c40
    have c71 := (hk47.cell (p := ⟨sb, 1, none⟩) (World.block_lt_of_cell? w4 _ c41) (hno _ (World.block_lt_of_cell? w4 _ c41))).trans c41
    have hkw7 : Kept (fun _ => False) w w7 := hkw4.trans hk47 (fun _ _ h => h) (fun i hi e => hno i (Nat.lt_of_lt_of_le hi hkw4.size) e)
    exact ⟨hkw7.then hkB, hl7.kept hkB (fun _ _ h => h), hs7.kept hkB (fun _ _ h => h), (hkB.cell (World.block_lt_of_cell? w7 _ c70) (fun h => h)).trans c70, (hkB.cell (World.block_lt_of_cell? w7 _ c71) (fun h => h)).trans c71,
      hg7'.kept hkB (fun _ _ h => h), b0, b1, hwr7.kept hkB (fun h => h) (fun _ _ h => h), hrd7'.kept hkB (fun h => h) (fun _ _ h => h)⟩
  have HST := Lib.hid hst7
  clear hst7 b0 b1 hkB hg7' hrd7' hk7 hk46 hk6 hk5 hf5 hrd6 hrb6 hrv6 hwr4 hl4 hll hs4 hkw4 c40 c41 hk4 hgb7 hsl hrv7
  generalize hWB : (w7.alloc (.cells #[.int .u64 glo, .slice ga gn gc] 53)) = wB at HST
  have s0 := HST.out.s0
  have s1 := HST.out.s1
  obtain ⟨T, hT⟩ : ∃ T, T = if M = 0 then 0 else Nat.log2 M := ⟨_, rfl⟩
  obtain ⟨okb, hok⟩ : ∃ okb, okb = decide (M ≠ 0) := ⟨_, rfl⟩
  have hgr := greatest_any wB _ M HST.out.s HSM.out
  rw [← hT, ← hok] at hgr
  have HGR := Lib.hid hgr; have HT := Lib.hid hT; have HOK := Lib.hid hok
  clear hgr hT hok
  go_wp2_with fail
  refine HGR.out.mono ?_
  rintro e w8 ⟨rfl, hk8⟩
  have HS8 := Lib.hid (HST.out.next hk8)
  clear HST HGR s0 s1 hWB hk8
  have s0 := HS8.out.s0
  have s1 := HS8.out.s1
  have HSD := Lib.hid (HS8.out.next (Kept.refl _ w8).drew)
  have hEb := bytesOf_length HSM.out
  have HEL := Lib.hid hEb; clear hEb
  clear HSBE HWBE hsbl hwl hs5 hs6 hrlt6
  go_wp2_with fail
  go_region_held3 (fun w' => w'.cell? ⟨sb, 0, none⟩ = some (.int .u64 lo) ∧ w'.cell? ⟨sb, 1, none⟩ = some (.slice sa sn sc))
    (first | go_keep)
    ((first | (go_at_call 11; (with_reducible refine (out_any w8.drew wb wv E HSD.out.wr.reads (by omega) HSD.out.wr.cell).mono ?_); rintro e w9 ⟨q1, rfl, hf9, hk9⟩; have HS9 := Lib.hid (HSD.out.next hk9); have HQ9 := Lib.hid hf9.reads; have s90 := HS9.out.s0; have s91 := HS9.out.s1; clear hf9 hk9) | (go_at_call 29; (with_reducible refine (bytes_any w9 _ M HS9.out.s HSM.out).mono ?_); rintro e w10 ⟨b1, rfl, hf10, hk10⟩; have HS10 := Lib.hid (HS9.out.next hk10); have HQ10 := Lib.hid (HQ9.out.kept hk10 (fun _ _ h => h)); have HB10 := Lib.hid hf10.reads; have s100 := HS10.out.s0; have s101 := HS10.out.s1; clear hf10 hk10) | (go_at_call 28; (with_reducible refine (putbytes_any b1 (bytesOf M) w10 HB10.out (by have := HEL.out; omega)).mono ?_); rintro e w11 ⟨b2, rfl, hf11, hk11⟩; have HS11 := Lib.hid (HS10.out.next hk11); have HQ11 := Lib.hid (HQ10.out.kept hk11 (fun _ _ h => h)); have HB11 := Lib.hid hf11.reads; have s110 := HS11.out.s0; have s111 := HS11.out.s1; clear hf11 hk11) | (go_at_call 14; (with_reducible refine (same_any w11 q1 b2 E E HQ11.out (by rw [HE.out]; exact HB11.out) HEB.out HEB.out).mono ?_); rw [show decide (E = E) = true by simp]; rintro e w110 ⟨rfl, rfl⟩) | (go_at_call 11; (with_reducible refine (out_any w11 wb wv E HS11.out.wr.reads (by omega) HS11.out.wr.cell).mono ?_); rintro e w12 ⟨q2, rfl, hf12, hk12⟩; have HS12 := Lib.hid (HS11.out.next hk12); have HQ12 := Lib.hid hf12.reads; have s120 := HS12.out.s0; have s121 := HS12.out.s1; clear hf12 hk12) | (go_at_call 30; (with_reducible refine (putset_any w12 lv ms HS12.out.l HIN.out).mono ?_); rintro e w13 ⟨b3, rfl, hf13, hk13⟩; have HS13 := Lib.hid (HS12.out.next hk13); have HQ13 := Lib.hid (HQ12.out.kept hk13 (fun _ _ h => h)); have HB13 := Lib.hid hf13.reads; have s130 := HS13.out.s0; have s131 := HS13.out.s1; clear hf13 hk13) | (go_at_call 14; (with_reducible refine (same_any w13 q2 b3 E E HQ13.out (by rw [HE.out, HM.out]; exact HB13.out) HEB.out HEB.out).mono ?_); rw [show decide (E = E) = true by simp]; rintro e w130 ⟨rfl, rfl⟩)))
  clear HQ9 HQ10 HB10 HQ11 HB11 HQ12 HQ13 HB13 HS8 HSD HS9 HS10 HS11 HS12 HIN HP
  clear s0 s1 s90 s91 s100 s101 s110 s111 s120 s121
  have HS := HS13; clear HS13
  obtain ⟨ra, rc, hrf⟩ := rd_slice HS.out.rd
  have g0 := HS.out.g0
  have g1 := HS.out.g1
  have hcase : (okb = true ∧ (most : Int) < (T : Int) ∧ G = 0 ∧ left = E ∧ er = 2) ∨ ((okb = false ∨ (okb = true ∧ ¬ (most : Int) < (T : Int))) ∧ G = M ∧ left = [] ∧ er = 0) := by
    have hT := HT.out; have hok := HOK.out
    rcases HRES.out with ⟨a, b, c⟩ | ⟨a, c⟩
    · refine Or.inl ⟨by rw [hok]; simpa using a, ?_, c⟩
      rw [if_neg a] at hT; omega
    · refine Or.inr ⟨?_, c⟩
      by_cases h0 : M = 0
      · exact Or.inl (by rw [hok]; simp [h0])
      · rw [if_neg h0] at hT
        exact Or.inr ⟨by rw [hok]; simpa using h0, by rcases a with a | a <;> omega⟩
  clear HRES HT HOK
  rcases hcase with ⟨rfl, hlt, rfl, rfl, rfl⟩ | ⟨hok, rfl, rfl, rfl⟩
  · obtain ⟨L, hL⟩ : ∃ L, L = left.length := ⟨_, rfl⟩
    rw [← hL] at hrf
    have c0 := HS.out.rd.cell0
    rw [hrf] at c0
    have C0 := Lib.hid c0; have HL := Lib.hid hL; clear c0 hL hrf
    have hglo : glo = 0 ∧ gn = 0 := by
      obtain ⟨hv, hs, he, hw, hc, hnil⟩ := HS.out.g.ex
      injection he with he
      simp at he
      have h1 : hs = [] := List.eq_nil_of_length_eq_zero (hc.nil.2 (by simp))
      have h2 := hnil h1
      rw [h2] at he
      obtain ⟨e1, e2⟩ := he
      injection e2 with _ e3 _
      exact ⟨by omega, e3⟩
    obtain ⟨rfl, rfl⟩ := hglo
    have HE1 := Lib.hid (empty_any w13 0 0 gc ga)
    rw [show decide (0 = 0 ∧ 0 = 0) = true by simp] at HE1
    go_wp2_with fail
    refine HE1.out.mono ?_
    rintro e w14 ⟨rfl, hk14⟩
    have HS14 := Lib.hid (HS.out.next hk14)
    have c140 := (hk14.cell (p := ⟨rb, 0, none⟩) HS.out.rd.lt (fun h => h)).trans C0.out
    have C14 := Lib.hid c140
    clear HS hk14 c140 g0 g1 s130 s131 C0 hlt
    go_wp2_with fail
    refine (err_any w14 rb 2 HS14.out.rd.cell1).mono ?_
    rintro e w' ⟨rfl, rfl⟩
    go_wp2_with fail
    refine (left_any w14 rb ra L rc C14.out).mono ?_
    rintro e w' ⟨rfl, rfl⟩
    go_wp2_with fail
    refine (out_any w14 wb wv left HS14.out.wr.reads (by omega) HS14.out.wr.cell).mono ?_
    rintro e w15 ⟨q3, rfl, hf15, hk15⟩
    obtain ⟨qa, qc, hqf⟩ := own_form hf15.own
    rw [← HL.out] at hqf
    have HK15 := Lib.hid (HS14.out.k.then hk15)
    subst hqf
    clear hf15 hk15
    go_wp2_with fail
    go_ret
    exact ⟨by simp, HK15.out.below (Nat.le_refl _) (fun _ h => h.elim)⟩
  · clear hrf
    have HEQ := Lib.hid (equal_any w13 _ _ G G HS.out.g HS.out.s)
    rw [show decide (G = G) = true by simp] at HEQ
    have hfin : ∀ W, Kept (fun _ => False) w13 W → Calls Try.prog 16 #[.pointer (some ⟨rb, 0, none⟩)] W fun e w' => e = .returned (.int .i64 0) ∧ W = w' := fun W hk => by
      have := end_any W rb rv7 [] 0 (HS.out.next hk).rd
      rw [if_neg (by simp)] at this
      exact this
    have HFIN := Lib.hid hfin
    have HK := Lib.hid HS.out.k
    clear hfin
    rcases hok with rfl | ⟨rfl, hle⟩
    all_goals
      go_wp2_with fail
      refine HEQ.out.mono ?_
      rintro e w14 ⟨rfl, hk14⟩
      have HK14 := Lib.hid hk14; clear hk14
      go_wp2_with fail
      refine (HFIN.out w14 HK14.out).mono ?_
      rintro e w' ⟨rfl, rfl⟩
      go_wp2_with fail
      go_ret
      exact ⟨by simp, (HK.out.then HK14.out).below (Nat.le_refl _) (fun _ h => h.elim)⟩

end Go.Proofs.Ytknphfednknajab
