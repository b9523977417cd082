/-
  arbac/keccak: Parse.
-/
import Derived.Test.YtnjmffmdlaobdabDoorKecY
import Derived.Shelf.Small.Strs
namespace Go.Proofs.YtnjmffmdlaobdabDoor
open Go.RowKit Go.Shelf

def laysIB_ren : Go.Shelf.Ren := ⟨fun | 137 => 62 | 217 => 76 | 266 => 85 | n => n, fun | 3 => 3 | 5 => 5 | 9 => 9 | n => n, fun | n => n⟩
theorem laysIB : Go.Proofs.Lays.n137 Tryd.prog laysIB_ren := {
  mixed := by kernel_rfl
  f137 := Tryd.func62.trans (congrArg some (by kernel_rfl))
  f217 := Tryd.func76.trans (congrArg some (by kernel_rfl))
  f266 := Tryd.func85.trans (congrArg some (by kernel_rfl))
  t3 := Tryd.underlying3
  a3 := Tryd.isAgg3
  z3 := Tryd.sizeOf3
  v3 := Tryd.zeroValue3
  t5 := Tryd.underlying5
  a5 := Tryd.isAgg5
  z5 := Tryd.sizeOf5
  v5 := Tryd.zeroValue5
  t9 := Tryd.underlying9
  a9 := Tryd.isAgg9
  z9 := Tryd.sizeOf9
  v9 := Tryd.zeroValue9 }

/-- The value of a hexadecimal digit, or -1. -/
def dv (c : Nat) : Int := if 48 ≤ c ∧ c ≤ 57 then (c : Int) - 48 else if 97 ≤ c ∧ c ≤ 102 then (c : Int) - 87 else -1
theorem dv_eq : ∀ c : Nat, c < 256 → Lib.indexByte [48, 49, 50, 51, 52, 53, 54, 55, 56, 57, 97, 98, 99, 100, 101, 102] c.toUInt8 = dv c := by decide +kernel
theorem dv_ge (c : Nat) : -1 ≤ dv c := by unfold dv; repeat (any_goals split) <;> omega
theorem dv_lt (c : Nat) : dv c < 16 := by unfold dv; repeat (any_goals split) <;> omega
theorem indexByte_any (w : World) (c : Nat) (hc : c < 256) :
    Calls Tryd.prog 62 #[.string ⟨#[48, 49, 50, 51, 52, 53, 54, 55, 56, 57, 97, 98, 99, 100, 101, 102]⟩, .int .u8 (c : Int)] w fun e w' => e = .returned (.int .i64 (dv c)) ∧ w = w' := by
  refine (Any.strings_IndexByte laysIB _ (c : Int) w).mono ?_
  rintro e w' ⟨rfl, h⟩
  refine ⟨?_, h.symm⟩
  rw [← dv_eq c hc]
  rfl

/-- Byte i of a text, where both its digits are digits. -/
def pOk (ss : List Nat) (i : Nat) : Prop := 0 ≤ dv (ss.getD (2 * i) 0) ∧ 0 ≤ dv (ss.getD (2 * i + 1) 0)
def pV (ss : List Nat) (i : Nat) : Nat := 16 * (dv (ss.getD (2 * i) 0)).toNat + (dv (ss.getD (2 * i + 1) 0)).toNat
def parV (ss : List Nat) : List Nat := (List.range 32).map (pV ss)
theorem parV_length (ss : List Nat) : (parV ss).length = 32 := by simp [parV]
theorem parV_at (ss : List Nat) (i : Nat) (hi : i < 32) : (parV ss).getD i 0 = pV ss i := by simp [parV, List.getD, hi]
def strN (ss : List Nat) : ByteArray := strOfNums (ss.map fun n : Nat => (n : Int))
theorem strN_size (ss : List Nat) : (strN ss).size = ss.length := by rw [strN, strOfNums_size, List.length_map]
theorem strN_at (ss : List Nat) (hb : ∀ x ∈ ss, x < 256) (j : Nat) (p : j < (strN ss).size) : ((strN ss)[j]'p).toNat = ss.getD j 0 := by
  have hj : j < ss.length := by rw [strN_size] at p; exact p
  have h1 : (strN ss)[j]'p = UInt8.ofNat (ss.getD j 0) := by
    show (strN ss).data[j]'_ = _
    simp [strN, strOfNums, List.getD, hj]
  rw [h1]
  have := getD_lt256 hb j
  rw [UInt8.toNat_ofNat']
  exact Nat.mod_eq_of_lt this
theorem nib : ∀ h : Nat, h < 16 → ∀ l : Nat, l < 16 → bits .or .i64 ((16 * h : Nat) : Int) (l : Int) = ((16 * h + l : Nat) : Int) := by decide +kernel

theorem results_cell_slot {P : Program} {fn : Func} {p q : Tmp} {ty : TypeId} (h : fn.results = #[.cell p ty, .tmp q]) (tmps : Array Value) (w : World) (g : Nat) (cs : List Value) (d : TypeDesc) (v : Value) (hq : tmps.getD q undef = v)
    (hp : tmps.getD p undef = .pointer (some ⟨g, 0, none⟩)) (hc : ∀ j v, cs[j]? = some v → w.cell? ⟨g, 0 + j, none⟩ = some v)
    (hu : P.underlying ty = some d) (hd : (match d with | .struct _ | .array _ _ => true | _ => false) = true) (hi : (P.info? ty).map (·.size) = some cs.length) :
    (results fn tmps).run P w = .ok (.tuple #[.agg cs.toArray, v]) w := by
  have hp' : tmps[p]?.getD undef = .pointer (some ⟨g, 0, none⟩) := by simpa using hp
  have hq' : tmps[q]?.getD undef = v := by simpa using hq
  simp [results, h, hp', hq', asAddr, run_loadVar_at w g 0 ty cs d hc hu hd hi]

set_option maxRecDepth 100000 in
set_option maxHeartbeats 1600000 in
theorem parse_any (w : World) (ss : List Nat) (hb : ∀ x ∈ ss, x < 256) :
    Calls Tryd.prog 36 #[.string (strN ss)] w fun e w' => Kept (fun _ => False) w w' ∧
      ((ss.length = 64 ∧ (∀ i, i < 32 → pOk ss i) ∧ e = .returned (.tuple #[.agg (arr8 (parV ss)).toArray, .int .i64 0])) ∨
       ((ss.length ≠ 64 ∨ ∃ i, i < 32 ∧ ¬ pOk ss i) ∧ e = .returned (.tuple #[.agg zero32.toArray, .int .i64 6]))) := by
  have hS := strN_size ss
  have hAt := strN_at ss hb
  generalize strN ss = S at *
  have HAT := Lib.hid hAt; have HB := Lib.hid hb
  clear hAt hb
  go_enter Tryd.func36, Tryd.ntmps36
  by_cases h64 : ss.length = 64
  · rw [h64] at hS
    go_wp2_with fail
    go_loopw [5, 6, 7, 12] (fun _ _ _ i W => ∃ k : Nat, k ≤ 32 ∧ i = .int .i64 k ∧ (∀ j, j < k → pOk ss j) ∧ Blk W (w.heap.size + 1) 0 ((parV ss).take k ++ List.replicate (32 - k) 0) ∧ Blk W w.heap.size 0 (List.replicate 32 0) ∧ Kept (fun _ => False) w W ∧ w.heap.size + 1 < W.heap.size) (fun _ _ _ i _ => 32 - (intOf i).toNat)
    case atStart =>
      refine ⟨0, by omega, rfl, by omega, ?_, ?_, (Kept.alloc _ _ _).then (Kept.alloc _ _ _), by simp⟩
      · have := blk_new (w.alloc (.cells (arr8 (List.replicate 32 0)).toArray 25)) (arr8 (List.replicate 32 0)).toArray 25 (List.replicate 32 0) rfl
        rw [show (w.alloc (.cells (arr8 (List.replicate 32 0)).toArray 25)).heap.size = w.heap.size + 1 by simp] at this
        exact this
      · exact (blk_new w (arr8 (List.replicate 32 0)).toArray 25 (List.replicate 32 0) rfl).kept (Kept.alloc (fun _ => False) _ _) (by simp) (fun h => h)
    case round =>
      obtain ⟨k, hk, rfl, hv, hm, hz, hkw, hsz⟩ := hrel
      have hlen : ((parV ss).take k ++ List.replicate (32 - k) 0).length = 32 := by simp [parV_length]; omega
      by_cases hlt : k < 32
      · obtain ⟨j0, hj0⟩ : ∃ j, j = 2 * k := ⟨_, rfl⟩
        obtain ⟨j1, hj1⟩ : ∃ j, j = 2 * k + 1 := ⟨_, rfl⟩
        have w0 : IntKind.i64.wrap (2 * (k : Int)) = (j0 : Int) := by rw [IntWalk.i64_in _ (by omega)]; omega
        have w1 : IntKind.i64.wrap ((j0 : Int) + 1) = (j1 : Int) := by rw [IntWalk.i64_in _ (by omega)]; omega
        have p0 : (0 : Int) ≤ j0 := by omega
        have p1 : (j0 : Int) < 64 := by omega
        have p2 : j0 < 64 := by omega
        have p3 : (0 : Int) ≤ j1 := by omega
        have p4 : (j1 : Int) < 64 := by omega
        have p5 : j1 < 64 := by omega
        have m0 : (k : Int) < 32 := by omega
        have e0 := HAT.out j0
        have e1 := HAT.out j1
        have b0 := getD_lt256 HB.out j0
        have b1 := getD_lt256 HB.out j1
        have hbad : ¬ (0 ≤ dv (ss.getD j0 0) ∧ 0 ≤ dv (ss.getD j1 0)) → ¬ pOk ss k := fun h h' => h (by rw [hj0, hj1]; exact h')
        have hgood : (0 ≤ dv (ss.getD j0 0) ∧ 0 ≤ dv (ss.getD j1 0)) → pOk ss k ∧ (parV ss).getD k 0 = 16 * (dv (ss.getD j0 0)).toNat + (dv (ss.getD j1 0)).toNat := fun h => by
          rw [parV_at ss k hlt]; rw [hj0, hj1] at h ⊢; exact ⟨h, rfl⟩
        generalize ss.getD j0 0 = c0 at *
        generalize ss.getD j1 0 = c1 at *
        have HG := Lib.hid hgood; have HBD := Lib.hid hbad; have HV := Lib.hid hv; have HM := Lib.hid hm; have HZ := Lib.hid hz; have HKW := Lib.hid hkw
        clear hgood hbad hv hm hz hkw hj0 hj1
        go_wp2_with fail
        refine (indexByte_any wr c0 b0).mono ?_
        rintro e w' ⟨rfl, rfl⟩
        have l0 := dv_lt c0
        generalize dv c0 = h0 at *
        go_wp2_with fail
        refine (indexByte_any wr c1 b1).mono ?_
        rintro e w' ⟨rfl, rfl⟩
        have l1 := dv_lt c1
        generalize dv c1 = h1 at *
        have hm := HM.out; have hz := HZ.out; have hkw := HKW.out
        clear HM HZ HKW
        by_cases hpos : 0 ≤ h0 ∧ 0 ≤ h1
        · obtain ⟨hok, hpv⟩ := HG.out hpos
          obtain ⟨h, rfl⟩ : ∃ n : Nat, h0 = (n : Int) := ⟨h0.toNat, by omega⟩
          obtain ⟨l, rfl⟩ : ∃ n : Nat, h1 = (n : Int) := ⟨h1.toNat, by omega⟩
          have hl16 : h < 16 := by omega
          have ll16 : l < 16 := by omega
          have hor := nib h hl16 l ll16
          rw [Int.toNat_natCast, Int.toNat_natCast] at hpv
          obtain ⟨t, ht⟩ : ∃ t, t = 16 * h := ⟨_, rfl⟩
          obtain ⟨b, hb⟩ : ∃ b, b = 16 * h + l := ⟨_, rfl⟩
          rw [← hb] at hpv hor
          rw [← ht] at hor
          have s1 : IntKind.i64.wrap ((h : Int) * 16) = (t : Int) := by rw [IntWalk.i64_in _ (by omega)]; omega
          have s2 : IntKind.i64.wrap ((h : Int) * 2 ^ 4) = (t : Int) := by rw [show (2 : Int) ^ 4 = 16 by decide, IntWalk.i64_in _ (by omega)]; omega
          have s3 : IntKind.u8.wrap (b : Int) = (b : Int) := IntWalk.u8_in _ (by omega)
          have t1 : ¬ (h : Int) < 0 := by omega
          have t2 : ¬ (l : Int) < 0 := by omega
          have d := hm.cell k (by omega)
          have f := hm.free k (by omega)
          have hset := hm.set k b (by omega)
          rw [Nat.zero_add] at d f hset
          rw [← hpv, fill_set (parV ss) 32 k (parV_length ss) hlt] at hset
          rw [hpv] at hset
          generalize ((parV ss).take k ++ List.replicate (32 - k) 0).getD k 0 = old at d
          have kr := Kept.setCell (fun k => k = w.heap.size + 1) wr ⟨w.heap.size + 1, k, none⟩ (.int .u8 (b : Int)) rfl
          have Z2 := hz.kept kr (by omega) (by omega)
          have K2 := hkw.trans kr (T := fun _ => False) (fun _ _ h => h) (fun i hi e => by omega)
          have hsz2 := Nat.lt_of_lt_of_le hsz kr.size
          have hv2 : ∀ j, j < k + 1 → pOk ss j := fun j hj => by
            rcases Nat.lt_or_ge j k with h | h
            · exact HV.out j h
            · obtain rfl : j = k := by omega
              exact hok
          have HS := Lib.hid hset; have HZ2 := Lib.hid Z2; have HK2 := Lib.hid K2; have HV2 := Lib.hid hv2
          clear hset Z2 K2 kr hm hz hkw hv2 hok hpv ht hb hpos HG HBD HV hlen e0 e1
          go_wp2_with fail
          go_roundw
          case rel =>
            first
              | exact ⟨k + 1, by omega, by go_num, HV2.out, HS.out, HZ2.out, HK2.out, hsz2⟩
              | ((repeat apply Exists.intro); exact ⟨⟨k + 1, by omega, by go_num, HV2.out, HS.out, HZ2.out, HK2.out, hsz2⟩, rfl⟩)
          case measure => simp [intOf]; omega
        · have HBAD := Lib.hid (HBD.out hpos)
          have hz0 := (hz.setCells (t := List.replicate 32 0) rfl).get
          have z1 : ∀ j, j < zero32.length → (wr.cell? ⟨w.heap.size, 0 + j, none⟩).isSome = true := fun j hj => by
            rw [hz.cell j (by simpa [zero32, arr8_length] using hj)]; rfl
          have z2 : ∀ j, j < zero32.length → wr.frozen? ⟨w.heap.size, 0 + j, none⟩ = false := fun j hj => hz.free j (by simpa [zero32, arr8_length] using hj)
          have hfin : ∀ j v, zero32[j]? = some v → (wr.setCells w.heap.size 0 zero32).cell? ⟨w.heap.size, 0 + j, none⟩ = some v := hz0
          have K10 := hkw.trans (Kept.setCells w.heap.size zero32 0 wr) (T := fun _ => False) (fun _ _ h => h) (fun i hi e => by omega)
          have Z1 := Lib.hid z1; have Z2 := Lib.hid z2; have HF := Lib.hid hfin; have HK := Lib.hid K10
          have HO : Hid (∀ v ∈ zero32, v.oneCell' = true) := arr8_one _
          have HSD : Hid ((Tryd.prog.info? 25).map (·.size) = some zero32.length) := by
            show _ = some zero32.length
            rw [zero32, arr8_length, List.length_replicate]; exact size32
          clear z1 z2 hfin K10 hz0
          clear HG HBD HV hm hz hkw hlen e0 e1
          by_cases hneg : h0 < 0
          · clear hpos
            go_wp2_with (first | (refine wpList_store_at rfl 25 _ _ rfl w.heap.size 0 zero32 rfl rfl Z1.out Z2.out HO.out HSD.out ?_))
            refine bodyPost_ret_by (v := .tuple #[.agg zero32.toArray, .int .i64 6]) ?_ ?_ ?_
            · exact results_cell_slot Tryd.results36 _ _ w.heap.size zero32 _ _ rfl rfl HF.out Tryd.underlying25 rfl HSD.out
            · rfl
            · exact ⟨HK.out, Or.inr ⟨Or.inr ⟨k, hlt, HBAD.out⟩, rfl⟩⟩
          · have hneg1 : h1 < 0 := by omega
            clear hpos
            go_wp2_with (first | (refine wpList_store_at rfl 25 _ _ rfl w.heap.size 0 zero32 rfl rfl Z1.out Z2.out HO.out HSD.out ?_))
            refine bodyPost_ret_by (v := .tuple #[.agg zero32.toArray, .int .i64 6]) ?_ ?_ ?_
            · exact results_cell_slot Tryd.results36 _ _ w.heap.size zero32 _ _ rfl rfl HF.out Tryd.underlying25 rfl HSD.out
            · rfl
            · exact ⟨HK.out, Or.inr ⟨Or.inr ⟨k, hlt, HBAD.out⟩, rfl⟩⟩
      · obtain rfl : k = 32 := by omega
        have hfull : (parV ss).take 32 ++ List.replicate (32 - 32) 0 = parV ss := by simp [List.take_of_length_le, parV_length]
        rw [hfull] at hm
        have hml := parV_length ss
        have hg1 := hm.get
        have z1 : ∀ j, j < (arr8 (parV ss)).length → (wr.cell? ⟨w.heap.size, 0 + j, none⟩).isSome = true := fun j hj => by
          rw [arr8_length, hml] at hj; rw [hz.cell j (by simpa using hj)]; rfl
        have z2 : ∀ j, j < (arr8 (parV ss)).length → wr.frozen? ⟨w.heap.size, 0 + j, none⟩ = false := fun j hj => by
          rw [arr8_length, hml] at hj; exact hz.free j (by simpa using hj)
        have hsz25 : (Tryd.prog.info? 25).map (·.size) = some (arr8 (parV ss)).length := by rw [arr8_length, hml]; exact size32
        have hfin := (hz.setCells (t := parV ss) (by simp [hml])).get
        have kr := Kept.setCells w.heap.size (arr8 (parV ss)) 0 wr
        have K2 := hkw.trans kr (T := fun _ => False) (fun _ _ h => h) (fun i hi e => by omega)
        have G1 := Lib.hid hg1; have Z1 := Lib.hid z1; have Z2 := Lib.hid z2; have HF := Lib.hid hfin; have HK2 := Lib.hid K2; have HS25 := Lib.hid hsz25
        have HO := Lib.hid (arr8_one (parV ss)); have HV := Lib.hid hv
        clear hg1 z1 z2 hfin K2 kr hm hz hkw hfull hml hsz25 hlen hv
        obtain ⟨cs, hcs⟩ : ∃ cs, cs = arr8 (parV ss) := ⟨_, rfl⟩
        rw [← hcs] at G1 Z1 Z2 HF HK2 HS25 HO
        have HCS := Lib.hid hcs; clear hcs
        go_wp2_with (first | (refine wpList_load_at rfl 25 _ rfl (w.heap.size + 1) 0 rfl cs _ G1.out Tryd.underlying25 rfl HS25.out ?_) | (refine wpList_store_at rfl 25 _ _ rfl w.heap.size 0 cs rfl rfl Z1.out Z2.out HO.out HS25.out ?_))
        refine bodyPost_ret_by (v := .tuple #[.agg cs.toArray, .int .i64 0]) ?_ ?_ ?_
        · exact results_cell_slot Tryd.results36 _ _ w.heap.size cs _ _ rfl rfl HF.out Tryd.underlying25 rfl HS25.out
        · rfl
        · exact ⟨HK2.out, Or.inl ⟨h64, HV.out, by rw [HCS.out]⟩⟩
  · have hz : Blk ((w.alloc (.cells zero32.toArray 25)).alloc (.cells zero32.toArray 25)) w.heap.size 0 (List.replicate 32 0) :=
      (blk_new w zero32.toArray 25 (List.replicate 32 0) (by simp [zero32])).kept (Kept.alloc (fun _ => False) _ _) (by simp) (fun h => h)
    have hkw : Kept (fun _ => False) w ((w.alloc (.cells zero32.toArray 25)).alloc (.cells zero32.toArray 25)) := (Kept.alloc _ _ _).then (Kept.alloc _ _ _)
    have z1 : ∀ j, j < zero32.length → (((w.alloc (.cells zero32.toArray 25)).alloc (.cells zero32.toArray 25)).cell? ⟨w.heap.size, 0 + j, none⟩).isSome = true := fun j hj => by
      rw [hz.cell j (by simpa [zero32, arr8_length] using hj)]; rfl
    have z2 : ∀ j, j < zero32.length → ((w.alloc (.cells zero32.toArray 25)).alloc (.cells zero32.toArray 25)).frozen? ⟨w.heap.size, 0 + j, none⟩ = false := fun j hj => hz.free j (by simpa [zero32, arr8_length] using hj)
    have hfin : ∀ j v, zero32[j]? = some v → (((w.alloc (.cells zero32.toArray 25)).alloc (.cells zero32.toArray 25)).setCells w.heap.size 0 zero32).cell? ⟨w.heap.size, 0 + j, none⟩ = some v := (hz.setCells (t := List.replicate 32 0) rfl).get
    have K10 := hkw.trans (Kept.setCells w.heap.size zero32 0 ((w.alloc (.cells zero32.toArray 25)).alloc (.cells zero32.toArray 25))) (T := fun _ => False) (fun _ _ h => h) (fun i hi e => by omega)
    have Z1 := Lib.hid z1; have Z2 := Lib.hid z2; have HF := Lib.hid hfin; have HK := Lib.hid K10
    have HO : Hid (∀ v ∈ zero32, v.oneCell' = true) := arr8_one _
    have HSD : Hid ((Tryd.prog.info? 25).map (·.size) = some zero32.length) := by
      show _ = some zero32.length
      rw [zero32, arr8_length, List.length_replicate]; exact size32
    have H64 : Hid (¬ ss.length = 64) := h64
    have hi64 : ¬ (ss.length : Int) = 64 := by omega
    clear z1 z2 hfin K10 hz hkw
    generalize ss.length = n at *
    go_wp2_with (first | (refine wpList_store_at rfl 25 _ _ rfl w.heap.size 0 zero32 rfl rfl Z1.out Z2.out HO.out HSD.out ?_))
    refine bodyPost_ret_by (v := .tuple #[.agg zero32.toArray, .int .i64 6]) ?_ ?_ ?_
    · exact results_cell_slot Tryd.results36 _ _ w.heap.size zero32 _ _ rfl rfl HF.out Tryd.underlying25 rfl HSD.out
    · rfl
    · exact ⟨HK.out, Or.inr ⟨Or.inl H64.out, rfl⟩⟩
end Go.Proofs.YtnjmffmdlaobdabDoor
