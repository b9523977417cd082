/-
  arbaclaw03.KeccakTagged returns true.
-/
import Derived.Test.YtncieckanngodaaDoorKecRt
import Derived.Test.YtncieckanngodaaDoorKecEq
import Derived.Test.YtncieckanngodaaDoorKecK
import Derived.Test.YtncieckanngodaaDoorKecCt
import Derived.Deep.RegionHeld3
import Derived.Deep.MidRow
namespace Go.Proofs.YtncieckanngodaaDoor
open Go.RowKit

/-- 32 zero bytes, as cells. (in32, wpList_store_stop as in KecF and KecParses.) -/
def zero32 : List Value := arr8 (List.replicate 32 0)

/-- A value of 32 bytes, stored in a block of its own. -/
structure In32 (T : TypeId) (x : List Nat) (w2 : World) : Prop where
  z1 : ∀ j, j < (arr8 x).length → ((w2.alloc (.cells zero32.toArray T)).cell? ⟨w2.heap.size, 0 + j, none⟩).isSome = true
  z2 : ∀ j, j < (arr8 x).length → (w2.alloc (.cells zero32.toArray T)).frozen? ⟨w2.heap.size, 0 + j, none⟩ = false
  one : ∀ v ∈ arr8 x, v.oneCell' = true
  size : (Tryd.prog.info? T).map (·.size) = some (arr8 x).length
  blk : Blk ((w2.alloc (.cells zero32.toArray T)).setCells w2.heap.size 0 (arr8 x)) w2.heap.size 0 x
  kept : Kept (fun _ => False) w2 ((w2.alloc (.cells zero32.toArray T)).setCells w2.heap.size 0 (arr8 x))
  lt : w2.heap.size < ((w2.alloc (.cells zero32.toArray T)).setCells w2.heap.size 0 (arr8 x)).heap.size
theorem in32 (T : TypeId) (hT : (Tryd.prog.info? T).map (·.size) = some 32) (x : List Nat) (w2 : World) (hx : x.length = 32) : In32 T x w2 := by
  have ZL := blk_new w2 zero32.toArray T (List.replicate 32 0) (by simp [zero32])
  refine ⟨fun j hj => ?_, fun j hj => ?_, arr8_one x, ?_, ZL.setCells (by simp [hx]), (Kept.alloc (fun _ => False) _ _).trans (Kept.setCells _ _ _ _) (fun _ _ h => h) (fun i hi e => by omega),
    Nat.lt_of_lt_of_le (by simp) (Kept.setCells w2.heap.size (arr8 x) 0 (w2.alloc (.cells zero32.toArray T))).size⟩
  · rw [arr8_length, hx] at hj; rw [ZL.cell j (by simpa using hj)]; rfl
  · rw [arr8_length, hx] at hj; exact ZL.free j (by simpa using hj)
  · rw [arr8_length, hx]; exact hT

/-- A store of a whole array behind which the world has a name. -/
theorem wpList_store_stop {P : Program} {ops : Array Oper} {rest : List Oper} {o : Oper} {a : Act} {w : World} {Q : Exit → Act → World → Prop} (hgd : o.guard = none) (ty : TypeId) (x y : Operand) (ho : o.op = .store ty x y)
    (g off : Nat) (cs : List Value) (hx : a.eval x = .pointer (some ⟨g, off, none⟩)) (hy : a.eval y = .agg cs.toArray)
    (hc : ∀ j, j < cs.length → (w.cell? ⟨g, off + j, none⟩).isSome = true) (hf : ∀ j, j < cs.length → w.frozen? ⟨g, off + j, none⟩ = false) (h1 : ∀ v ∈ cs, v.oneCell' = true)
    (hi : (P.info? ty).map (·.size) = some cs.length)
    (h : ∀ w', Hid (w' = w.setCells g off cs) → wpList P ops Q rest (a.put o.dst undef) w') : wpList P ops Q (o :: rest) a w :=
  wpList_store_at hgd ty x y ho g off cs hx hy hc hf h1 hi (h _ rfl)

theorem info_bsT : (Tryd.prog.info? 26).map (fun i => (i.zero, i.size, i.bytes)) = some (some (.slice none 0 0), 1, 24) := by kernel_rfl

/-- The cut elements that came in so far. -/
def cutsN (f : Nat → Value) (k : Nat) : List Value := (List.range k).map fun i => cutV (f i)
theorem cutsN_succ (f : Nat → Value) (k : Nat) : cutsN f (k + 1) = cutsN f k ++ [cutV (f k)] := by simp [cutsN, List.range_succ]

/-- A row of slices of the call's own is a list of slices in memory. -/
theorem lb_own {w : World} {B : Nat} {v : Value} {f : Nat → Value} {F : Nat → List Nat} {K : Nat} (ho : w.ownsRow B 26 1 v K (cutsN f K)) (hl : ∀ i, i < K → Loose w (cutV (f i)) (F i) w.heap.size ∧ ∀ x ∈ F i, x < 256) : LB w v (fun i => cutV (f i)) F K w.heap.size := by
  have hc := fun g (hg : v.ownBlock = some g) => ho.cells hg
  rcases ho.2 with ⟨h1, h0⟩ | ⟨g, cap, cur, h1, hb, hg, hn, _⟩
  · subst h1 h0; exact Or.inl ⟨⟨none, 0, rfl, fun _ => rfl⟩, rfl⟩
  · subst h1
    refine Or.inr ⟨g, 0, cap, rfl, hn, fun i hi => ⟨?_, (Array.getElem?_eq_some_iff.1 hg).1, (hl i hi).1, (hl i hi).2⟩⟩
    have := hc g rfl i (cutV (f i)) (by simp [cutsN, hi])
    have hadd : (⟨g, 0, none⟩ : Addr).add i = ⟨g, 0 + i, none⟩ := by unfold Addr.add; split <;> simp_all
    rwa [hadd] at this

theorem LB.mono {w : World} {v : Value} {f : Nat → Value} {F : Nat → List Nat} {N B B' : Nat} (h : LB w v f F N B) (hB : B ≤ B') : LB w v f F N B' := by
  rcases h with h | ⟨g, off, cap, rfl, hc, h⟩
  · exact Or.inl h
  · exact Or.inr ⟨g, off, cap, rfl, hc, fun i hi => ⟨(h i hi).1, Nat.lt_of_lt_of_le (h i hi).2.1 hB, (h i hi).2.2.1.mono hB, (h i hi).2.2.2⟩⟩

/-- What the loop keeps: the writer, and the list of the cut parts. -/
structure TgInv (w wr : World) (wb : Nat) (v lv : Value) (xs : List Nat) (f : Nat → Value) (k : Nat) : Prop where
  wri : Wr wr wb v wb xs
  own : wr.ownsRow w.heap.size 26 1 lv k (cutsN f k)
  apart : ∀ j, lv.ownBlock = some j → j ≠ wb ∧ v.ownBlock ≠ some j
  kept : Kept (fun _ => False) w wr
  base : w.heap.size ≤ wb

theorem TgInv.write {w w1 w2 : World} {wb : Nat} {v v' lv : Value} {xs ys : List Nat} {f : Nat → Value} {k : Nat} (h : TgInv w w1 wb v lv xs f k) (hw : Wr w2 wb v' wb ys) (hs : WStep w1 w2 wb v v') : TgInv w w2 wb v' lv ys f k := by
  have hb := h.base
  refine ⟨hw, hs.kept.owns h.own (fun j hj e => ?_), fun j hj => ⟨(h.apart j hj).1, fun e => ?_⟩, h.kept.trans hs.kept (fun _ _ h => h) (fun i hi e => ?_), hb⟩
  · rcases e with e | e
    · exact (h.apart j hj).1 e
    · exact (h.apart j hj).2 e
  · rcases hs.row with hr | hr
    · rw [hr] at e; exact (h.apart j hj).2 e
    · have := hr j e; have := (h.own.lt j hj).2; omega
  · rcases e with e | e
    · omega
    · have := (h.wri.own.lt _ e).1; omega

theorem TgInv.on {w w1 w2 : World} {wb : Nat} {v lv : Value} {xs : List Nat} {f : Nat → Value} {k : Nat} (h : TgInv w w1 wb v lv xs f k) (hk : Kept (fun _ => False) w1 w2) : TgInv w w2 wb v lv xs f k :=
  ⟨h.wri.kept hk (fun h => h) (fun _ _ h => h), hk.owns h.own (fun _ _ h => h), h.apart, h.kept.then hk, h.base⟩

set_option maxRecDepth 100000 in
set_option maxHeartbeats 3200000 in
theorem tg_at (s : ByteArray) (a0 : Option Addr) (N c0 : Nat) (f : Nat → Value) (F : Nat → List Nat) (w : World) (hT : KTab w) (hs : s.size ≤ 9223372036854775807) (hl : LB w (.slice a0 N c0) f F N w.heap.size) :
    Calls Tryd.prog 4 #[.string s, .slice a0 N c0] w fun e w' => e = .returned (.bool true) ∧ Kept (fun _ => False) w w' := by
  obtain ⟨i0, hi, hz0, hz1, hz2⟩ := info_parts info_bsT
  obtain ⟨m, hm⟩ : ∃ m, m = Nat.min s.size 200 := ⟨_, rfl⟩
  have hm1 : m ≤ s.size := by rw [hm]; exact Nat.min_le_left _ _
  have hm2 : m ≤ 200 := by rw [hm]; exact Nat.min_le_right _ _
  have hmi : min (s.size : Int) 200 = (m : Int) := by
    rcases Nat.lt_or_ge 200 s.size with h | h
    · have : m = 200 := by rw [hm]; exact Nat.min_eq_right (by omega)
      omega
    · have : m = s.size := by rw [hm]; exact Nat.min_eq_left h
      omega
  have hm3 : (m : Int) ≤ (s.size : Int) := by omega
  have hm0 : (0 : Int) ≤ (m : Int) := by omega
  have htz : (s.extract 0 m).size ≤ 200 := by rw [ByteArray.size_extract]; omega
  have HTZ := Lib.hid htz
  have hby : ∀ i, i < N → ∀ x ∈ F i, x < 256 := fun i hi => by
    obtain ⟨_, _, _, _, _, _, h⟩ := hl.at (k := i) hi
    exact h
  have HL := Lib.hid hl; have HT := Lib.hid hT; have HBY := Lib.hid hby
  clear hl hT hby hm htz hm1
  go_enter Tryd.func4, Tryd.ntmps4
  go_wp2_with fail
  refine (awake3_any w HT.out).mono ?_
  rintro e w0 ⟨rfl, k0⟩
  go_wp2_with fail
  clear hmi hm3 hm0
  generalize s.extract 0 m = t at HTZ ⊢
  have h201 := HTZ.out
  refine (newWriter_any w0).mono ?_
  rintro e w1 ⟨rfl, hw1⟩
  have H1 : Hid (TgInv w w1 w0.heap.size (.slice none 0 0) (.slice none 0 0) [] f 0) := ⟨by rw [hw1]; exact wr_new w0 w0.heap.size (Nat.le_refl _), World.ownsRow_nil _ _ _ _, by intro j hj; simp [Value.ownBlock] at hj, by rw [hw1]; exact k0.then (Kept.alloc _ _ _), k0.size⟩
  clear hw1 k0
  generalize w0.heap.size = wb at H1 ⊢
  go_wp2_with fail
  refine (string_any t w1 wb _ wb _ H1.out.wri (by simp) (by omega) (by have := H1.out.wri.lt; omega)).mono ?_
  rintro e w2 ⟨rfl, v2, hwr2, hs2⟩
  rw [List.nil_append] at hwr2
  have l1 := enc_len (v := t.size) (by omega)
  have l2 := strB_length t
  have hbase : (enc t.size ++ strB t).length ≤ 210 := by rw [List.length_append]; omega
  have hbb : ∀ x ∈ enc t.size ++ strB t, x < 256 := fun x hx => (List.mem_append.1 hx).elim (enc_byte _ x) (strB_byte t x)
  have HTG := Lib.hid (fun (W : World) (pv : Value) (K : Nat) (hk : Kept (fun _ => False) w W) (hl : LB W pv (fun i => cutV (f i)) (fun i => (F i).take 600) K W.heap.size) (hK : K ≤ 8) => tagged_any t pv (fun i => cutV (f i)) (fun i => (F i).take 600) K W (HT.out.kept hk (fun _ _ h => h)) hl (by omega) hK (fun i _ => by have := take600 (F i); omega))
  have HRT := Lib.hid (fun (W : World) (pv : Value) (K : Nat) (hl : LB W pv (fun i => cutV (f i)) (fun i => (F i).take 600) K W.heap.size) (hK : K ≤ 8) => rtagged_any t pv (fun i => cutV (f i)) (fun i => (F i).take 600) K W hl (by omega) hK (fun i _ => by have := take600 (F i); omega))
  have H2 : Hid (∃ v, TgInv w w2 wb v (.slice none 0 0) ((enc t.size ++ strB t) ++ encN (fun i => (F i).take 600) 0) f 0) := ⟨v2, by rw [show encN (fun i => (F i).take 600) 0 = [] from rfl, List.append_nil]; exact H1.out.write hwr2 hs2⟩
  have HBB := Lib.hid hbb
  obtain ⟨base, hbs⟩ : ∃ base, base = enc t.size ++ strB t := ⟨_, rfl⟩
  rw [← hbs] at H2 hbase HBB HTG HRT
  clear hwr2 hs2 H1 l1 l2 hbs hbb
  go_wp2_with fail
  go_loopw [5, 7] (fun lv iv wr => ∃ k : Nat, k ≤ N ∧ k ≤ 5 ∧ iv = .int .i64 k ∧ Hid (∃ v, TgInv w wr wb v lv (base ++ encN (fun i => (F i).take 600) k) f k)) (fun _ iv _ => 5 - (intOf iv).toNat)
  case atStart => exact ⟨0, by omega, by omega, rfl, H2⟩
  case round =>
    obtain ⟨k, hkN, hk5, rfl, hinv⟩ := hrel
    obtain ⟨v, hin⟩ := hinv.out
    have hen := encN_len (F := fun i => (F i).take 600) (N := 5) (fun i _ => by have := take600 (F i); show ((F i).take 600).length ≤ 1000; omega) k hk5
    have htl : (base ++ encN (fun i => (F i).take 600) k).length ≤ 210 + 1010 * k := by rw [List.length_append]; omega
    obtain ⟨la, lc, hlf⟩ : ∃ a c, u5 = .slice a k c := by
      rcases hin.own.2 with ⟨h1, h0⟩ | ⟨g, cap, cur, h1, _⟩
      · exact ⟨_, _, by rw [h1, h0]⟩
      · exact ⟨_, _, h1⟩
    have HIN := Lib.hid hin
    clear hin hinv H2 hen
    subst hlf
    by_cases hlt : k < N ∧ k < 5
    · obtain ⟨hlN, hl5⟩ := hlt
      have hl1 : (k : Int) < (N : Int) := by omega
      have hl0 : (0 : Int) ≤ (k : Int) := by omega
      have hl2 : (k : Int) < 5 := by omega
      obtain ⟨g, off, ha0, hg, hcell, hloose, _⟩ := (HL.out.kept HIN.out.kept (Nat.le_refl _)).at (k := k) hlN
      subst ha0
      have HLO := Lib.hid hloose
      have hfl := take600 (F k)
      have hsz := HIN.out.kept.size
      have hlo := HIN.out.own.lt
      have HLT := Lib.hid hlo
      obtain ⟨fk, hfk⟩ : ∃ fk, fk = f k := ⟨_, rfl⟩
      rw [← hfk] at hcell HLO
      obtain ⟨pa, pc, hpf⟩ := HLO.out.form
      subst hpf
      obtain ⟨n, hn⟩ : ∃ n, n = (F k).length := ⟨_, rfl⟩
      obtain ⟨mk, hmk⟩ : ∃ mk, mk = Nat.min 600 n := ⟨_, rfl⟩
      have hcut : cutV (.slice pa n pc) = .slice pa mk pc := by rw [hmk]; rfl
      rw [← hn] at hcell HLO hfk
      have hsh : ∀ W : World, Kept (fun j => w.heap.size ≤ j) wr W → Calls Tryd.prog 9 #[.slice pa n pc] W fun e w' => e = .returned (.slice pa mk pc) ∧ W = w' := fun W hk => by
        have h := short_loose W (.slice pa n pc) (F k) w.heap.size (HLO.out.kept hk (fun _ h e => by omega))
        rwa [hcut] at h
      have hlc : ∀ W : World, Kept (fun j => w.heap.size ≤ j) wr W → Loose W (.slice pa mk pc) ((F k).take 600) wb := fun W hk => by
        have h := (HLO.out.kept hk (fun _ h e => by omega)).cut
        rw [hcut] at h
        exact h.mono HIN.out.base
      have hown : wr.ownsRow w.heap.size 26 1 (.slice la k lc) k (cutsN f k) := HIN.out.own
      have hsucc : cutsN f (k + 1) = cutsN f k ++ [.slice pa mk pc] := by rw [cutsN_succ, ← hfk, hcut]
      have HSH := Lib.hid hsh; have HLC := Lib.hid hlc; have HOW := Lib.hid hown; have HSU := Lib.hid hsucc; have HFK := Lib.hid hfk; have HMK := Lib.hid hmk
      have hm1 : k + 1 ≤ maxLen := by unfold maxLen; omega
      have hm2 : (k + 1) * 24 ≤ 140737488355328 := by omega
      clear hloose hlo hsh hlc hown hsucc hfk hmk hcut hn
      go_wp2_with fail
      refine (HSH.out wr (Kept.refl _ _)).mono ?_
      rintro e w3 ⟨rfl, rfl⟩
      go_wp2_with (at_builtin; refine wpList_append_lies _ rfl _ _ _ rfl w.heap.size 26 i0 _ 1 24 Tryd.underlying22 hi hz0 hz1 hz2 rfl (by omega) (.slice la k lc) k _ rfl (HOW.out.alloc _) ⟨wr.heap.size, 0, none⟩ 1 1 [.slice pa mk pc] rfl rfl (World.news_of_block (cs := #[.slice pa mk pc]) (t := 26) (fr := (0, 0)) (heap_alloc_new wr _)) (by simp [Value.oneCell']) (by omega) hm1 hm2 (by simp; omega) (wr.heap.size + 1) (by simp) ?_)
      intro gg cap w3 hown3 hgrow hat hgl
      have kp : Kept (blk (.slice la k lc)) wr w3 := (Kept.alloc (fun _ => False) wr _).trans (Kept.ofGrown (S := blk (.slice la k lc)) hgrow fun k e => e) (fun _ _ h => h.elim) (fun _ _ h => h)
      have kq : Kept (fun j => w.heap.size ≤ j) wr w3 := kp.mono (fun j _ e => (HLT.out j e).1)
      have hcell3 : w3.cell? ⟨g, off + k, none⟩ = some (.slice pa n pc) := (kp.cell (p := ⟨g, off + k, none⟩) (by simp; omega) (fun e => by have := (HLT.out g e).1; omega)).trans hcell
      have hap : ∀ j, (Value.slice la k lc).ownBlock = some j → j ≠ wb ∧ v.ownBlock ≠ some j := HIN.out.apart
      have hw3 : Wr w3 wb v wb (base ++ encN (fun i => (F i).take 600) k) := HIN.out.wri.kept kp (fun e => (hap wb e).1 rfl) (fun j hj e => (hap j e).2 hj)
      have hwl := HIN.out.wri.lt
      have hin3 : Hid (TgInv w w3 wb v (.slice (some ⟨gg, 0, none⟩) (k + 1) cap) (base ++ encN (fun i => (F i).take 600) k) f (k + 1)) := by
        refine ⟨hw3, by rw [HSU.out]; exact hown3, fun j hj => ?_, HIN.out.kept.trans kp (fun _ _ h => h) (fun i hi e => by have := (HLT.out i e).1; omega), HIN.out.base⟩
        have hgj : gg = j := by simpa [Value.ownBlock] using hj
        subst hgj
        rcases hat with h | h
        · exact hap _ h
        · exact ⟨by omega, fun e => by have := (HIN.out.wri.own.lt _ e).2; omega⟩
      have HKQ := Lib.hid kq
      have hwl3 := hw3.lt
      clear hown3 hgrow hat hgl kp kq hap hw3
      go_wp2_with fail
      refine (HSH.out w3 HKQ.out).mono ?_
      rintro e w4 ⟨rfl, rfl⟩
      go_wp2_with fail
      refine (wbytes_loose _ ((F k).take 600) w3 wb v wb _ hin3.out.wri (HLC.out w3 HKQ.out) (by omega) (by omega) (by omega)).mono ?_
      rintro e w5 ⟨rfl, v5, hwr5, hs5⟩
      have H5 : Hid (∃ v, TgInv w w5 wb v (.slice (some ⟨gg, 0, none⟩) (k + 1) cap) (base ++ encN (fun i => (F i).take 600) (k + 1)) f (k + 1)) := ⟨v5, by
        have h := hin3.out.write hwr5 hs5
        rw [List.append_assoc] at h
        exact h⟩
      clear hwr5 hs5 hin3 HSH HLC HOW HSU
      go_wp2_with fail
      go_roundw
      case rel => exact ⟨k + 1, by omega, by omega, by go_num, H5⟩
      case measure => simp [intOf]; omega
    · have hxb : ∀ x ∈ base ++ encN (fun i => (F i).take 600) k, x < 256 := fun x hx => (List.mem_append.1 hx).elim (HBB.out x) (encN_byte (F := fun i => (F i).take 600) (N := N) (fun i hi y hy => HBY.out i hi y (List.mem_of_mem_take hy)) k hkN x)
      have hlb : LB wr (.slice la k lc) (fun i => cutV (f i)) (fun i => (F i).take 600) k wr.heap.size := lb_own HIN.out.own (fun i hi => by
        obtain ⟨_, _, _, _, _, h1, h2⟩ := (HL.out.kept HIN.out.kept (Nat.le_refl _)).at (k := i) (by omega)
        exact ⟨(h1.cut).mono HIN.out.kept.size, fun x hx => h2 x (List.mem_of_mem_take hx)⟩)
      have TG := fun (W : World) (hk : Kept (fun _ => False) wr W) => HTG.out W (.slice la k lc) k (HIN.out.kept.then hk) ((hlb.kept hk (Nat.le_refl _)).mono hk.size) (by omega)
      have RT := fun (W : World) (hk : Kept (fun _ => False) wr W) => HRT.out W (.slice la k lc) k ((hlb.kept hk (Nat.le_refl _)).mono hk.size) (by omega)
      obtain ⟨X, hX⟩ : ∃ X, X = base ++ encN (fun i => (F i).take 600) k := ⟨_, rfl⟩
      rw [← hX] at hxb TG RT htl HIN
      have EQ := fun (W : World) => eqSame W X
      have KS := fun (W : World) (p : Value) (hp : Reads W p X) (hk : Kept (fun _ => False) w W) => ksum_any W p X hp hxb (HT.out.kept hk (fun _ _ h => h)) (by omega)
      have hdl : (digS X).length = 32 := dig_length _
      generalize digS X = dd at EQ TG RT KS hdl
      have HDL := Lib.hid hdl
      have HTG2 := Lib.hid TG; have HRT2 := Lib.hid RT; have HEQ := Lib.hid EQ; have HKS := Lib.hid KS
      have hend : (¬ (k : Int) < (N : Int)) ∨ ((k : Int) < (N : Int) ∧ ¬ (k : Int) < 5) := by omega
      clear hlt hxb hlb TG RT EQ KS hX HTG HRT hdl
      rcases hend with hq1 | ⟨hq1, hq2⟩
      all_goals
        go_wp2_with fail
        refine (HTG2.out wr (Kept.refl _ _)).mono ?_
        rintro e w5 ⟨rfl, k5⟩
        have I5 := in32 32 size32 dd w5 HDL.out
        have Z1 := Lib.hid I5.z1; have Z2 := Lib.hid I5.z2; have ZO := Lib.hid I5.one; have ZS := Lib.hid I5.size; have ZB := Lib.hid I5.blk.get; have ZK := Lib.hid I5.kept; have ZL := I5.lt
        have K5 := Lib.hid (k5.then I5.kept)
        clear k5 I5
        obtain ⟨ds, hds⟩ : ∃ ds, ds = arr8 dd := ⟨_, rfl⟩
        rw [← hds] at Z1 Z2 ZO ZS ZB ZK ZL K5
        rw [← hds]
        have HTG3 := HTG2; have HRT3 := HRT2; have HEQ3 := HEQ; have HKS3 := HKS
        rw [← hds] at HTG3 HRT3 HEQ3 HKS3
        clear hds HTG2 HRT2 HEQ HKS
        go_wp2_with (first | (refine wpList_store_stop rfl 32 _ _ rfl w5.heap.size 0 ds rfl rfl Z1.out Z2.out ZO.out ZS.out ?_))
        intro w6 hw6
        have hw6' : w6 = (w5.alloc (.cells zero32.toArray 32)).setCells w5.heap.size 0 ds := hw6.out
        clear hw6
        rw [← hw6'] at ZB ZK ZL K5
        clear hw6'
        generalize w5.heap.size = gd at ZB ZL Z1 Z2 ⊢
        clear Z1 Z2 ZO ZK
        have HI6 := Lib.hid (HIN.out.on K5.out.drew)
        have K6 := Lib.hid (HIN.out.kept.then K5.out.drew)
        have HLD : Hid (∀ W, Kept (fun _ => False) w6 W → ∀ j v, ds[j]? = some v → W.cell? ⟨gd, 0 + j, none⟩ = some v) := Lib.hid (fun W hk j v hv => (hk.cell (p := ⟨gd, 0 + j, none⟩) ZL (fun h => h)).trans (ZB.out j v hv))
        have he := fun W => HEQ3.out W
        have D6 := Lib.hid ((Kept.refl (fun _ => False) w6).drew)
        have HRD := Lib.hid (HRT3.out w6.drew K5.out.drew)
        clear ZB HTG3 HRT3 HEQ3
        go_wp2_with fail
        have hund := Tryd.underlying32
        have hszd := ZS.out
        refine wp_region_held_drew (S := fun w' => w'.rangeAt gd 0 ds) (by kernel_rfl) (HLD.out _ D6.out) (fun _ => ?_)
        refine wpAnyH_take (i := 0) rfl (by kernel_rfl) (by kernel_rfl) (by kernel_rfl) (fun _ _ _ h => h) (yieldsIf_load_mid (by rfl) 32 _ rfl gd 0 rfl ds _ (fun _ h => h) hund rfl hszd) (HLD.out _ D6.out) ?_
        refine wpAnyH_take (i := 1) (v := .string t) rfl (by kernel_rfl) (by kernel_rfl) (by kernel_rfl) (fun _ _ _ h => h) (Or.inl ⟨by rfl, fun W _ => by rfl⟩) (HLD.out _ D6.out) ?_
        refine wpAnyH_ready (rs := [2]) (by kernel_rfl) (by simp) ?_
        refine AllReadyH.cons (o := _) rfl (fun K hK => ?_) AllReadyH.nil
        go_simp
        refine hK.out _ _ (HLD.out _ D6.out) (fun _ => ?_)
        clear hK K
        refine wpAnyH_ready (rs := [3]) (by kernel_rfl) (by simp) ?_
        refine AllReadyH.cons (o := _) rfl (fun K hK => ?_) AllReadyH.nil
        go_simp
        go_at_call 19
        refine HRD.out.mono ?_
        rintro e w7 ⟨rfl, k7⟩
        have D7 := Lib.hid (D6.out.then k7)
        have HI7 := Lib.hid (HI6.out.on k7)
        clear k7
        go_wp2_with fail
        refine hK.out _ _ (HLD.out _ D7.out) (fun _ => ?_)
        clear hK K
        refine wpAnyH_ready (rs := [4]) (by kernel_rfl) (by simp) ?_
        refine AllReadyH.cons (o := _) rfl (fun K hK => ?_) AllReadyH.nil
        go_simp
        refine hK.out _ _ (HLD.out _ D7.out) (fun _ => ?_)
        clear hK K
        refine wpAnyH_ready (rs := [5]) (by kernel_rfl) (by simp) ?_
        refine AllReadyH.cons (o := _) rfl (fun K hK => ?_) AllReadyH.nil
        go_simp
        refine hK.out _ _ (HLD.out _ D7.out) (fun _ => ?_)
        clear hK K
        refine wpAnyH_take (i := 6) rfl (by kernel_rfl) (by kernel_rfl) (by kernel_rfl) (fun _ _ _ h => h) (yieldsIf_load_mid (by rfl) 32 _ rfl gd 0 rfl ds _ (fun _ h => h) hund rfl hszd) (HLD.out _ D7.out) ?_
        refine wpAnyH_ready (rs := [7]) (by kernel_rfl) (by simp) ?_
        refine AllReadyH.cons (o := _) rfl (fun K hK => ?_) AllReadyH.nil
        go_simp
        refine hK.out _ _ (HLD.out _ D7.out) (fun _ => ?_)
        clear hK K
        refine wpAnyH_ready (rs := [8]) (by kernel_rfl) (by simp) ?_
        refine AllReadyH.cons (o := _) rfl (fun K hK => ?_) AllReadyH.nil
        go_simp
        go_at_call 20
        refine (out_any w7 wb v X HI7.out.wri.reads (by omega) HI7.out.wri.cell).mono ?_
        rintro e w8 ⟨p8, rfl, hf8, hk8⟩
        have HF8 := Lib.hid hf8.reads
        have D8 := Lib.hid (D7.out.then hk8)
        have K8 := Lib.hid (HI7.out.kept.then hk8)
        clear hf8 hk8
        go_wp2_with fail
        refine hK.out _ _ (HLD.out _ D8.out) (fun _ => ?_)
        clear hK K
        refine wpAnyH_ready (rs := [9]) (by kernel_rfl) (by simp) ?_
        refine AllReadyH.cons (o := _) rfl (fun K hK => ?_) AllReadyH.nil
        go_simp
        go_at_call 13
        refine (HKS3.out w8 p8 HF8.out K8.out).mono ?_
        rintro e w9 ⟨rfl, hk9⟩
        have D9 := Lib.hid (D8.out.then hk9)
        have K9 := Lib.hid (K8.out.then hk9)
        clear hk9
        go_wp2_with fail
        refine hK.out _ _ (HLD.out _ D9.out) (fun _ => ?_)
        clear hK K
        refine wpAnyH_ready (rs := [10]) (by kernel_rfl) (by simp) ?_
        refine AllReadyH.cons (o := _) rfl (fun K hK => ?_) AllReadyH.nil
        go_simp
        refine hK.out _ _ (HLD.out _ D9.out) (fun _ => ?_)
        clear hK K
        refine wpAnyH_ready (rs := [11]) (by kernel_rfl) (by simp) ?_
        refine AllReadyH.cons (o := _) rfl (fun K hK => ?_) AllReadyH.nil
        go_simp
        refine hK.out _ _ (HLD.out _ D9.out) (fun _ => ?_)
        clear hK K
        refine wpAnyH_ready (rs := [12]) (by kernel_rfl) (by simp) ?_
        refine AllReadyH.cons (o := _) rfl (fun K hK => ?_) AllReadyH.nil
        go_simp
        refine hK.out _ _ (HLD.out _ D9.out) (fun _ => ?_)
        clear hK K
        refine wpAnyH_done (by kernel_rfl) ?_ _
        clear hund hszd
        go_wp2_with fail
        go_ret
        exact ⟨rfl, K9.out⟩

theorem tg_any (s : ByteArray) (v : Value) (f : Nat → Value) (F : Nat → List Nat) (N : Nat) (w : World) (hT : KTab w) (hs : s.size ≤ 9223372036854775807) (hl : LB w v f F N w.heap.size) :
    Calls Tryd.prog 4 #[.string s, v] w fun e w' => e = .returned (.bool true) ∧ Kept (fun _ => False) w w' := by
  obtain ⟨a, c, rfl, _⟩ := hl.form
  exact tg_at s a N c f F w hT hs hl
end Go.Proofs.YtncieckanngodaaDoor
