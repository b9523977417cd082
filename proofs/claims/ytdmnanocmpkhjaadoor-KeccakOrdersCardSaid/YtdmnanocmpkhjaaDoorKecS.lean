/-
  arbac/keccak: (*Hash).Sum.
-/
import Derived.Test.YtdmnanocmpkhjaaDoorKecT
namespace Go.Proofs.YtdmnanocmpkhjaaDoor
open Go.RowKit

def padA (b : List Nat) : List Nat := b ++ List.replicate (136 - b.length) 0
theorem padA_length (b : List Nat) (h : b.length < 136) : (padA b).length = 136 := by simp [padA]; omega
theorem padA_lt {b : List Nat} (h : ∀ x ∈ b, x < 256) : ∀ x ∈ padA b, x < 256 := by
  intro x hx
  rcases List.mem_append.1 hx with hx | hx
  · exact h x hx
  · have := List.eq_of_mem_replicate hx; omega
theorem set_lt8 {b : List Nat} (hb : ∀ x ∈ b, x < 256) (i y : Nat) (hy : y < 256) : ∀ x ∈ b.set i y, x < 256 := by
  intro x hx
  rcases List.mem_or_eq_of_mem_set hx with h | h
  · exact hb x h
  · rw [h]; exact hy
theorem padB_eq (b : List Nat) : padB b = ((padA b).set b.length 6).set 135 (((padA b).set b.length 6).getD 135 0 ^^^ 128) := rfl
theorem padB_length (b : List Nat) (h : b.length < 136) : (padB b).length = 136 := by rw [padB_eq, List.length_set, List.length_set, padA_length b h]
theorem xor_lt8 {a b : Nat} (ha : a < 256) (hb : b < 256) : a ^^^ b < 256 := Nat.xor_lt_two_pow (n := 8) ha hb
theorem padB_lt {b : List Nat} (h : ∀ x ∈ b, x < 256) : ∀ x ∈ padB b, x < 256 := by
  rw [padB_eq]
  exact set_lt8 (set_lt8 (padA_lt h) _ _ (by omega)) _ _ (xor_lt8 (getD_lt256 (set_lt8 (padA_lt h) _ _ (by omega)) _) (by omega))
theorem xor8 (a b y : Nat) (ha : a < 256) (hb : b < 256) (h : y = a ^^^ b) : bits .xor .u8 (a : Int) (b : Int) = (y : Int) := by
  rw [u8_xor_nat _ _ (by omega) (by omega), h]

set_option maxRecDepth 100000 in
set_option maxHeartbeats 1600000 in
theorem hsum_any (w : World) (g off : Nat) (xs : List Nat) (hh : HashAt w g off xs) (hg : g < w.heap.size) (hT : KTab w) (hle : xs.length < 2 ^ 62) :
    Calls Tryd.prog 11 #[.pointer (some ⟨g, off, none⟩)] w fun e w' => e = .returned (.agg (arr8 (digS xs)).toArray) ∧ Kept (fun _ => False) w w' := by
  have hok := hsh_ok hh.byte
  have hdg : digS xs = dig (absS (hsh xs).1 (padB (hsh xs).2)) := rfl
  rw [hdg]
  obtain ⟨blk, hb1, hb2, hb3, hb4⟩ := hh.blk
  have hS := hh.st
  obtain ⟨st, hst⟩ : ∃ st, st = (hsh xs).1 := ⟨_, rfl⟩
  obtain ⟨bu, hbu⟩ : ∃ bu, bu = (hsh xs).2 := ⟨_, rfl⟩
  have s25 := hok.l1; have s64 := hok.b1; have bl := hok.l2; have b8 := hok.b2
  rw [← hst, ← hbu]
  rw [← hst] at s25 s64 hS
  rw [← hbu] at bl b8 hb4
  have hlen := hh.len
  obtain ⟨m, hm⟩ : ∃ m, m = xs.length % 136 := ⟨_, rfl⟩
  have hm136 : m < 136 := by omega
  rw [← hm] at bl
  rw [bl] at hb4
  have HLEN := Lib.hid hlen; have HM := Lib.hid hm; have HBU := Lib.hid b8; have HS := Lib.hid hS; have HS64 := Lib.hid s64; have HB3 := Lib.hid hb3; have HB4 := Lib.hid hb4; have HT := Lib.hid hT
  clear hlen hm b8 hS s64 hb3 hb4 hT hh hok hdg hst hbu hb2
  -- the two blocks of the function's own
  obtain ⟨wA, hwA⟩ : ∃ wA, wA = w.alloc (.cells (arr8 (List.replicate 32 0)).toArray 27) := ⟨_, rfl⟩
  obtain ⟨wB, hwB⟩ : ∃ wB, wB = wA.alloc (.cells (arr8 (List.replicate 136 0)).toArray 37) := ⟨_, rfl⟩
  have szA : wA.heap.size = w.heap.size + 1 := by rw [hwA]; simp
  have szB : wB.heap.size = w.heap.size + 2 := by rw [hwB]; simp [szA]
  have R0 : Blk wB w.heap.size 0 (List.replicate 32 0) := by
    rw [hwB]
    refine Blk.kept (S := fun _ => False) (w := wA) ?_ (Kept.alloc _ _ _) (by omega) (fun h => h)
    rw [hwA]
    exact blk_new w (arr8 (List.replicate 32 0)).toArray 27 (List.replicate 32 0) (by simp)
  have P0 : Blk wB (w.heap.size + 1) 0 (List.replicate 136 0) := by
    rw [hwB, ← szA]; exact blk_new wA (arr8 (List.replicate 136 0)).toArray 37 (List.replicate 136 0) (by simp)
  have KB : Kept (fun _ => False) w wB := by rw [hwB, hwA]; exact (Kept.alloc _ _ _).then (Kept.alloc _ _ _)
  have hrun := run_copy8 (P := Tryd.prog) wB.drew 26 26 3 5 (w.heap.size + 1) 0 136 136 m 136 g (off + 25) (List.replicate 136 0) (blk.take m) blk rfl rfl
    (by simp [hb1] <;> omega)
    (fun j hj => by simp at hj; refine ⟨by omega, ?_⟩; rw [List.getD_eq_getElem?_getD, List.getD_eq_getElem?_getD, List.getElem?_take_of_lt (by omega)])
    (fun j hj => (KB.cell (p := ⟨g, off + 25 + j, none⟩) hg (fun h => h)).trans (HB3.out.cell j hj)) 0 0 rfl P0.drew (by simp; omega)
  have P1 := P0.drew.splice (a := 0) (c := blk.take m) (by simp; omega)
  rw [HB4.out, bl] at hrun
  rw [HB4.out, bl, show (List.replicate 136 0).take 0 ++ bu ++ (List.replicate 136 0).drop (0 + m) = padA bu by simp only [padA, bl, List.take_zero, List.nil_append, Nat.zero_add, List.drop_replicate]] at P1
  have kc : Kept (fun k => k = w.heap.size + 1) wB.drew (wB.drew.setCells (w.heap.size + 1) (0 + 0) (arr8 bu)) := Kept.setCells _ _ _ _
  have KC := KB.drew.trans kc (T := fun _ => False) (fun _ _ h => h) (fun i hi e => by omega)
  have R1 := R0.drew.kept kc (by show w.heap.size < wB.heap.size; omega) (by omega)
  have SC : w.heap.size + 2 ≤ (wB.drew.setCells (w.heap.size + 1) (0 + 0) (arr8 bu)).heap.size := Nat.le_trans (by rw [← szB]; exact Nat.le_refl _) kc.size
  have HC := Lib.hid hrun; have HP1 := Lib.hid P1; have HKC := Lib.hid KC; have HR1 := Lib.hid R1; have HSC := Lib.hid SC
  have hlenB : wB.cell? ⟨g, off + 161, none⟩ = some (.int .u64 (xs.length : Nat)) := (KB.cell (p := ⟨g, off + 161, none⟩) hg (fun h => h)).trans HLEN.out
  have HLB := Lib.hid hlenB
  clear hrun P1 KC R1 SC kc P0 R0 hlenB
  have y1 : (0 : Int) ≤ m := by omega
  have y2 : (m : Int) ≤ 136 := by omega
  have y3 : (m : Int) < 136 := by omega
  have hgB : g < wB.heap.size := by omega
  have HWA := Lib.hid hwA; have HWB := Lib.hid hwB
  have HSB := Lib.hid szB
  clear hwA hwB szA szB
  have hz136 : ∀ W : World, Sem.run Tryd.prog (zeroValue 37) W = .ok (.agg (arr8 (List.replicate 136 0)).toArray) W := fun _ => by kernel_rfl
  go_enter Tryd.func11, Tryd.ntmps11
  go_wp2_with fail
  refine (pending_any _ g off xs.length (by have := (Kept.alloc (fun _ => False) w (.cells (arr8 (List.replicate 32 0)).toArray 27)).cell (p := ⟨g, off + 161, none⟩) hg (fun h => h); exact this.trans HLEN.out) hle).mono ?_
  rw [← HM.out]
  rintro e w2 ⟨rfl, rfl⟩
  go_wp2_with fail
  go_still_tail 6, (by kernel_rfl)
  change wpList _ _ _ _ _ ((w.alloc (.cells (arr8 (List.replicate 32 0)).toArray 27)).alloc (.cells (arr8 (List.replicate 136 0)).toArray 37)).drew
  rw [← HWA.out, ← HWB.out]
  refine Lib.wpList_copy_run _ rfl _ _ 26 26 rfl _ _ rfl rfl HC.out ?_
  clear HC HWA HWB
  have hp1 : Blk (wB.drew.setCells (w.heap.size + 1) 0 (arr8 bu)) (w.heap.size + 1) 0 (padA bu) := HP1.out
  have hkc : Kept (fun _ => False) w (wB.drew.setCells (w.heap.size + 1) 0 (arr8 bu)) := HKC.out
  have hr1 : Blk (wB.drew.setCells (w.heap.size + 1) 0 (arr8 bu)) w.heap.size 0 (List.replicate 32 0) := HR1.out
  have hsc : w.heap.size + 2 ≤ (wB.drew.setCells (w.heap.size + 1) 0 (arr8 bu)).heap.size := HSC.out
  clear HP1 HKC HR1 HSC HSB HLB hgB KB
  generalize wB.drew.setCells (w.heap.size + 1) 0 (arr8 bu) = wC at *
  have hpl : (padA bu).length = 136 := padA_length bu (by omega)
  have d1 := hp1.cell m (by omega)
  have f1 := hp1.free m (by omega)
  rw [Nat.zero_add] at d1 f1
  have hq : Blk (wC.setCell ⟨w.heap.size + 1, m, none⟩ (.int .u8 6)) (w.heap.size + 1) 0 ((padA bu).set m 6) := by
    have := hp1.set m 6 (by omega)
    rwa [Nat.zero_add] at this
  have kq : Kept (fun k => k = w.heap.size + 1) wC (wC.setCell ⟨w.heap.size + 1, m, none⟩ (.int .u8 6)) := Kept.setCell _ _ _ _ rfl
  have hql : ((padA bu).set m 6).length = 136 := by rw [List.length_set, hpl]
  have d2 := hq.cell 135 (by omega)
  have f2 := hq.free 135 (by omega)
  rw [Nat.zero_add] at d2 f2
  obtain ⟨v, hv⟩ : ∃ v, v = ((padA bu).set m 6).getD 135 0 := ⟨_, rfl⟩
  have hv8 : v < 256 := by rw [hv]; exact getD_lt256 (set_lt8 (padA_lt HBU.out) _ _ (by omega)) _
  rw [← hv] at d2
  obtain ⟨y, hy⟩ : ∃ y, y = v ^^^ 128 := ⟨_, rfl⟩
  have hx : bits .xor .u8 (v : Int) 128 = (y : Int) := xor8 v 128 y hv8 (by omega) hy
  have hp : Blk ((wC.setCell ⟨w.heap.size + 1, m, none⟩ (.int .u8 6)).setCell ⟨w.heap.size + 1, 135, none⟩ (.int .u8 (y : Int))) (w.heap.size + 1) 0 (padB bu) := by
    have := hq.set 135 y (by omega)
    rw [Nat.zero_add] at this
    rw [padB_eq, bl, ← hv, ← hy]
    exact this
  have kp : Kept (fun k => k = w.heap.size + 1) (wC.setCell ⟨w.heap.size + 1, m, none⟩ (.int .u8 6)) ((wC.setCell ⟨w.heap.size + 1, m, none⟩ (.int .u8 6)).setCell ⟨w.heap.size + 1, 135, none⟩ (.int .u8 (y : Int))) := Kept.setCell _ _ _ _ rfl
  have kqp := kq.trans kp (T := fun k => k = w.heap.size + 1) (fun _ _ h => h) (fun _ _ h => h)
  have KE := hkc.trans kqp (T := fun _ => False) (fun _ _ h => h) (fun i hi e => by omega)
  have RE := hr1.kept kqp (by omega) (by omega)
  have SE := HS.out.kept KE hg (fun h => h)
  have NE := Nat.le_trans hsc kqp.size
  have TE := HT.out.kept KE (fun _ _ h => h)
  have hNE : ((wC.setCell ⟨w.heap.size + 1, m, none⟩ (.int .u8 6)).setCell ⟨w.heap.size + 1, 135, none⟩ (.int .u8 (y : Int))).heap.size = wC.heap.size := by simp
  have HPE := Lib.hid hp; have HKE := Lib.hid KE; have HRE := Lib.hid RE; have HSE := Lib.hid SE; have HTE := Lib.hid TE; have HNE := Lib.hid hNE
  have hpb := padB_length bu (by omega)
  have HPB := Lib.hid (padB_lt HBU.out)
  have z25 := Lib.hid size25
  obtain ⟨cs, hcs⟩ : ∃ cs, cs = arr st := ⟨_, rfl⟩
  have HG := Lib.hid SE.get
  rw [← hcs] at HG
  have hsz : (Tryd.prog.info? 36).map (·.size) = some cs.length := by rw [hcs, arr_length, s25]; exact size25
  have HSZ := Lib.hid hsz
  have HCS := Lib.hid hcs
  obtain ⟨wE, hwE⟩ : ∃ wE, wE = (wC.setCell ⟨w.heap.size + 1, m, none⟩ (.int .u8 6)).setCell ⟨w.heap.size + 1, 135, none⟩ (.int .u8 (y : Int)) := ⟨_, rfl⟩
  rw [← hwE] at hp KE RE SE TE hNE
  have ZL := lanes_new wE (arr (List.replicate 25 0)).toArray 36 (List.replicate 25 0) rfl
  have ka : Kept (fun _ => False) wE (wE.alloc (.cells (arr (List.replicate 25 0)).toArray 36)) := Kept.alloc _ _ _
  have ks : Kept (fun k => k = wC.heap.size) (wE.alloc (.cells (arr (List.replicate 25 0)).toArray 36)) ((wE.alloc (.cells (arr (List.replicate 25 0)).toArray 36)).setCells wC.heap.size 0 (arr st)) := Kept.setCells _ _ _ _
  have kas := ka.trans ks (T := fun _ => False) (fun _ _ h => h) (fun i hi e => by omega)
  have LG := ZL.setCells (t := st) (by simp [s25])
  rw [hNE] at LG ZL
  have PG := hp.kept kas (by omega) (fun h => h)
  have RG := RE.kept kas (by omega) (fun h => h)
  have KG := KE.then kas
  have TG := TE.kept kas (fun _ _ h => h)
  have NG : wC.heap.size < ((wE.alloc (.cells (arr (List.replicate 25 0)).toArray 36)).setCells wC.heap.size 0 (arr st)).heap.size := Nat.lt_of_lt_of_le (by rw [← hNE]; simp) ks.size
  have hzz : ∀ j, j < cs.length → ((wE.alloc (.cells (arr (List.replicate 25 0)).toArray 36)).cell? ⟨wC.heap.size, 0 + j, none⟩).isSome = true := fun j hj => by
    rw [hcs, arr_length, s25] at hj; rw [ZL.cell j (by simpa using hj)]; rfl
  have hzf : ∀ j, j < cs.length → (wE.alloc (.cells (arr (List.replicate 25 0)).toArray 36)).frozen? ⟨wC.heap.size, 0 + j, none⟩ = false := fun j hj => by
    rw [hcs, arr_length, s25] at hj; exact ZL.free j (by simpa using hj)
  have ho : ∀ v ∈ cs, v.oneCell' = true := by rw [hcs]; exact arr_one st
  rw [← hcs] at LG PG RG KG TG NG
  rw [hwE] at LG PG RG KG TG NG hzz hzf
  have HLG := Lib.hid LG; have HPG := Lib.hid PG; have HRG := Lib.hid RG; have HKG := Lib.hid KG; have HTG := Lib.hid TG; have HNG := Lib.hid NG; have HZ1 := Lib.hid hzz; have HZ2 := Lib.hid hzf; have HO := Lib.hid ho
  clear hq kq hp kp kqp KE RE SE TE NE hNE hr1 hkc hp1 hcs hsz hv hy ZL ka ks kas LG PG RG KG TG NG hzz hzf ho HPE HKE HRE HSE HTE HNE hwE
  go_wp2_with (first | (refine wpList_load_at rfl 36 _ rfl g off rfl cs _ HG.out Tryd.underlying36 rfl HSZ.out ?_) | (refine wpList_store_at rfl 36 _ _ rfl wC.heap.size 0 cs rfl rfl HZ1.out HZ2.out HO.out HSZ.out ?_))
  have hn1 : NoTab wC.heap.size := HT.out.fresh (by omega)
  refine (absorb_any _ wC.heap.size 0 (w.heap.size + 1) 0 st (padB bu) s25 HS64.out HLG.out HNG.out HTG.out hn1 hpb HPB.out HPG.out (Nat.lt_of_lt_of_le (by omega) (Nat.le_of_lt HNG.out)) (Or.inl (by omega))).mono ?_
  rintro e w8 ⟨rfl, h8, k8⟩
  have K8 := HKG.out.trans k8.kept (T := fun _ => False) (fun _ _ h => h) (fun i hi e => by omega)
  have R8 := HRG.out.kept k8.kept (Nat.lt_of_lt_of_le (by omega) (Nat.le_of_lt HNG.out)) (by omega)
  have N8 := Nat.lt_of_lt_of_le HNG.out k8.kept.size
  have HK8 := Lib.hid K8; have HR8 := Lib.hid R8; have H8 := Lib.hid h8
  clear k8 K8 R8 h8 HLG HPG HRG HKG HTG HNG HZ1 HZ2 d1 f1 d2 f2
  have hal := absS_ok (blk := padB bu) HS64.out s25 HPB.out
  have hl8 := hal.1
  clear hal
  go_wp2_with fail
  refine (id_any w8 wC.heap.size 0 _ hl8 H8.out N8).mono ?_
  rintro e w9 ⟨rfl, k9⟩
  have R9 := HR8.out.kept k9 (by omega) (fun h => h)
  have K9 := HK8.out.then k9
  obtain ⟨dd, hdd⟩ : ∃ dd, dd = dig (absS st (padB bu)) := ⟨_, rfl⟩
  have hdl : dd.length = 32 := by rw [hdd]; exact dig_length _
  rw [← hdd]
  obtain ⟨ds, hds⟩ : ∃ ds, ds = arr8 dd := ⟨_, rfl⟩
  have z1 : ∀ j, j < ds.length → (w9.cell? ⟨w.heap.size, 0 + j, none⟩).isSome = true := fun j hj => by
    rw [hds, arr8_length, hdl] at hj; rw [R9.cell j (by simpa using hj)]; rfl
  have z2 : ∀ j, j < ds.length → w9.frozen? ⟨w.heap.size, 0 + j, none⟩ = false := fun j hj => by
    rw [hds, arr8_length, hdl] at hj; exact R9.free j (by simpa using hj)
  have hsd : (Tryd.prog.info? 27).map (·.size) = some ds.length := by rw [hds, arr8_length, hdl]; exact size32
  have hfin := (R9.setCells (t := dd) (by simp [hdl])).get
  have K10 := K9.trans (Kept.setCells w.heap.size ds 0 w9) (T := fun _ => False) (fun _ _ h => h) (fun i hi e => by omega)
  have ho : ∀ v ∈ ds, v.oneCell' = true := by rw [hds]; exact arr8_one dd
  rw [← hds] at hfin
  rw [← hds]
  have Z1 := Lib.hid z1; have Z2 := Lib.hid z2; have HSD := Lib.hid hsd; have HF := Lib.hid hfin; have HK10 := Lib.hid K10; have HO2 := Lib.hid ho
  have HDS := Lib.hid hds; have HDD := Lib.hid hdd
  clear z1 z2 hsd hfin K10 ho hds hdd R9 K9 k9 HK8 HR8 H8 hl8
  go_wp2_with (first | (refine wpList_store_at rfl 27 _ _ rfl w.heap.size 0 ds rfl rfl Z1.out Z2.out HO2.out HSD.out ?_))
  refine bodyPost_ret_by (v := .agg ds.toArray) ?_ ?_ ?_
  · exact results_cell_at Tryd.results11 _ _ w.heap.size ds _ rfl HF.out Tryd.underlying27 rfl HSD.out
  · rfl
  · exact ⟨by first | rfl | rw [HDS.out, HDD.out], HK10.out⟩
end Go.Proofs.YtdmnanocmpkhjaaDoor
