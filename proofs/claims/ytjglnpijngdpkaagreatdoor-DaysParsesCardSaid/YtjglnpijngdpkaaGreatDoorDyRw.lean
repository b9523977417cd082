/-
  arbacref05.Parse.
-/
import Derived.Test.YtjglnpijngdpkaaGreatDoorDyRq
import Derived.Test.YtjglnpijngdpkaaGreatDoorDyRo
import Derived.Test.YtjglnpijngdpkaaGreatDoorDyPa
namespace Go.Proofs.YtjglnpijngdpkaaGreatDoor
open Go.RowKit
set_option linter.unusedSimpArgs false
set_option linter.unusedVariables false
set_option maxRecDepth 100000

/-- The spans of the first parts, so far as the parts are texts of spans. -/
structure GoodR (acc : List (Int × Int)) (done : List (List UInt8)) : Prop where
  ok : ∀ p ∈ acc, okSp p
  len : acc.length = done.length
  eq : ∀ m : List (Int × Int), (∀ p ∈ m, okSp p) → done = m.map spanT → acc = m
theorem GoodR.nil : GoodR [] [] := ⟨by simp, rfl, fun m _ h => by
  cases m with
  | nil => rfl
  | cons p m => simp at h⟩
theorem GoodR.snoc {acc : List (Int × Int)} {done : List (List UInt8)} {p : Int × Int} {x : List UInt8} (h : GoodR acc done) (hp : okSp p) (hx : ∀ q, okSp q → x = spanT q → q = p) : GoodR (acc ++ [p]) (done ++ [x]) := by
  refine ⟨fun q hq => ?_, by simp [h.len], fun m hm e => ?_⟩
  · rcases List.mem_append.1 hq with hq | hq
    · exact h.ok q hq
    · obtain rfl := List.mem_singleton.1 hq; exact hp
  · rcases List.eq_nil_or_concat m with rfl | ⟨m', q, rfl⟩
    · simp at e
    · rw [List.concat_eq_append] at e hm ⊢
      rw [List.map_append] at e
      obtain ⟨e1, e2⟩ := List.append_inj' e rfl
      have e3 : x = spanT q := by simpa using e2
      rw [h.eq m' (fun p hp => hm p (by simp [hp])) e1, hx q (hm q (by simp)) e3]
/-- What Parse answers. -/
def ParP (s : ByteArray) (w : World) (e : Ending) (w' : World) : Prop := ∃ (fv : Value) (ok : Bool), e = .returned (.tuple #[fv, .bool ok]) ∧ Kept (fun _ => False) w w' ∧
  ((ok = true ∧ ∃ (t : List Int) (f : List Bool), CanD t ∧ textD t = s.data.toList ∧ RowG EB w' fv f ∧ f.length = 30001 ∧ ∀ d : Nat, d ≤ 30000 → f.getD d false = inD t (d : Int)) ∨ (ok = false ∧ ∀ t, CanD t → textD t ≠ s.data.toList))
theorem rowLit (w : World) (o : Obj) (x y : Int) (T : TypeId) : RowG ESp ((w.alloc o).alloc (.cells #[.int .i64 x, .int .i64 y] T)) (.slice (some ⟨w.heap.size + 1, 0, none⟩) 1 1) [(x, y)] := by
  have h9 := RowG.new (E := ESp) (w.alloc o) #[.int .i64 x, .int .i64 y] T 1 [(x, y)] rfl rfl (by unfold maxLen; omega)
  rw [World.size_alloc] at h9
  exact h9
def strN : Value → Nat
  | .string r => r.size
  | _ => 0
def boolN : Value → Nat
  | .bool true => 1
  | _ => 0
def InvR (s : ByteArray) (w : World) (lv rv mv : Value) (wr : World) (rest : ByteArray) (m : Bool) (acc : List (Int × Int)) (done : List (List UInt8)) : Prop :=
  OwnG ESp 62 w.heap.size wr lv acc ∧ GoodR acc done ∧ splitC 44 s.data.toList = done ++ (if m = true then splitC 44 rest.data.toList else []) ∧ Kept (fun _ => False) w wr

set_option maxHeartbeats 6400000 in
theorem rparseD_any (w : World) (s : ByteArray) (hs : s.size ≤ 1000000) (hq : (splitC 44 s.data.toList).length ≤ 15001) :
    Calls Tryz.prog 13 #[.string s] w fun e w' => ParP s w e w' := by
  by_cases hno : s = ⟨#[110, 111, 110, 101]⟩
  · subst hno
    have HO := Lib.hid (fun W => rofD_any W (.slice none 0 0) [] (Or.inl ⟨rfl, rfl⟩) (by simp) (by simp))
    clear hs hq
    go_enter Tryz.func13, Tryz.ntmps13
    go_wp2_with fail
    refine (HO.out _).mono ?_
    rintro e w1 ⟨fv, f, rfl, hf, hfl, hfv, k1⟩
    have HF := Lib.hid hf; have K1 := Lib.hid k1
    clear hf k1
    go_wp2_with fail
    go_ret2
    exact ⟨fv, true, rfl, K1.out, Or.inl ⟨rfl, [], f, CanD.nil, rfl, HF.out, hfl, hfv⟩⟩
  by_cases hall : s = ⟨#[97, 108, 108]⟩
  · subst hall
    have HO := Lib.hid (fun W h => rofD_any W (.slice (some ⟨w.heap.size, 0, none⟩) 1 1) [(0, 30000)] h (by simp) (by simp [okSp]))
    have HR : Hid (RowG ESp (w.alloc (.cells #[.int .i64 0, .int .i64 30000] 62)) (.slice (some ⟨w.heap.size, 0, none⟩) 1 1) [(0, 30000)]) := Lib.hid (RowG.new w #[.int .i64 0, .int .i64 30000] 62 1 [(0, 30000)] rfl rfl (by unfold maxLen; omega))
    clear hs hq hno
    go_enter Tryz.func13, Tryz.ntmps13
    go_wp2_with fail
    refine (HO.out _ HR.out).mono ?_
    rintro e w1 ⟨fv, f, rfl, hf, hfl, hfv, k1⟩
    have HF := Lib.hid hf; have K1 := Lib.hid ((Kept.alloc (fun _ => False) w _).then k1)
    clear hf k1
    go_wp2_with fail
    go_ret2
    refine ⟨fv, true, rfl, K1.out, Or.inl ⟨rfl, allD, f, allD_can, rfl, HF.out, hfl, fun d hd => ?_⟩⟩
    rw [hfv d hd, ← spanIn_spansD allD_can]; rfl
  have hno' : s.data.toList ≠ noneB := fun e => hno (by
    obtain ⟨⟨l⟩⟩ := s
    show (⟨⟨l⟩⟩ : ByteArray) = ⟨⟨_⟩⟩
    have : l = noneB := e
    rw [this]; rfl)
  have hall' : s.data.toList ≠ allB := fun e => hall (by
    obtain ⟨⟨l⟩⟩ := s
    show (⟨⟨l⟩⟩ : ByteArray) = ⟨⟨_⟩⟩
    have : l = allB := e
    rw [this]; rfl)
  have hnob : (s.toList == [110, 111, 110, 101]) = false := by rw [ByteArray.toList_eq, beq_eq_false_iff_ne]; exact hno'
  have hallb : (s.toList == [97, 108, 108]) = false := by rw [ByteArray.toList_eq, beq_eq_false_iff_ne]; exact hall'
  have HPARTS : Hid (∀ t, CanD t → textD t = s.data.toList → splitC 44 s.data.toList = (spansD t).map spanT) := Lib.hid fun t hc ht => (textD_parts hc ht hno' hall').1
  clear hno' hall' hno hall
  go_enter Tryz.func13, Tryz.ntmps13
  go_wp2_with fail
  go_loopw [4, 5, 6] (fun lv rv mv wr => ∃ (a : Option Addr) (c : Nat) (acc : List (Int × Int)) (done : List (List UInt8)) (rest : ByteArray) (m : Bool), lv = .slice a acc.length c ∧ rv = .string rest ∧ mv = .bool m ∧ rest.size ≤ s.size ∧ Hid (InvR s w (.slice a acc.length c) (.string rest) (.bool m) wr rest m acc done)) (fun lv rv mv _ => strN rv + boolN mv)
  case atStart => exact ⟨none, 0, [], [], s, true, rfl, rfl, rfl, Nat.le_refl _, Lib.hid ⟨OwnG.nil _ _ _, GoodR.nil, rfl, Kept.refl _ _⟩⟩
  case round =>
    obtain ⟨a, c, acc, done, rest, m, rfl, rfl, rfl, hrs, hI⟩ := hrel
    cases m with
    | true =>
      have hI0 := hI.out
      have HRW := Lib.hid hI0.1; have HGD := Lib.hid hI0.2.1; have HKW := Lib.hid hI0.2.2.2
      have HSP : Hid (splitC 44 s.data.toList = done ++ splitC 44 rest.data.toList) := Lib.hid hI0.2.2.1
      have HAL : Hid (acc.length ≤ 15001) := Lib.hid (by
        have e1 := congrArg List.length hI0.2.2.1
        rw [List.length_append] at e1
        rw [hI0.2.1.len]; omega)
      have HLT : Hid (∀ j, (Value.slice a acc.length c).ownBlock = some j → w.heap.size ≤ j) := Lib.hid fun j hj => (hI0.1.lt j hj).1
      have HBY := Lib.hid (byte_at rest)
      clear hI0 hI
      go_wp2_with fail
      go_loop [5, 6, 7, 8] (fun rv mv wv iv => ∃ k : Nat, k ≤ rest.size ∧ iv = .int .i64 (k : Int) ∧ rv = .string rest ∧ mv = .bool false ∧ wv = .string rest ∧ Hid ((44 : UInt8) ∉ rest.data.toList.take k)) (fun _ _ _ iv => rest.size - (intOf iv).toNat)
      case atStart => exact ⟨0, Nat.zero_le _, rfl, rfl, rfl, rfl, Lib.hid (by simp)⟩
      case round =>
        obtain ⟨k, hk, rfl, rfl, rfl, rfl, hno⟩ := hrel
        by_cases hlt : k < rest.size
        · have l1 : (k : Int) < (rest.size : Int) := by omega
          have l0 : (0 : Int) ≤ (k : Int) := by omega
          have hby := HBY.out k hlt
          by_cases hd : rest[k] = 44
          · have hdn : (rest[k].toNat : Int) = 44 := by rw [hd]; rfl
            have hdb : decide ((rest[k].toNat : Int) = 44) = true := decide_eq_true hdn
            have hks : (k : Int) ≤ (rest.size : Int) := by omega
            have hw : IntKind.i64.wrap ((k : Int) + 1) = (k : Int) + 1 := IntWalk.i64_in _ (by omega)
            have he2 : (0 : Int) ≤ (k : Int) + 1 := by omega
            have he3 : (k : Int) + 1 ≤ (rest.size : Int) := by omega
            have hn1 : ((k : Int) + 1).toNat = k + 1 := by omega
            have hcut : rest.data.toList = rest.data.toList.take k ++ 44 :: rest.data.toList.drop (k + 1) := by
              obtain ⟨hl, he⟩ := List.getElem?_eq_some_iff.1 hby
              have e2 := List.drop_eq_getElem_cons hl
              rw [he, hd] at e2
              rw [← e2, List.take_append_drop]
            have HWD : Hid (splitC 44 s.data.toList = (done ++ [(rest.extract 0 k).data.toList]) ++ (if true = true then splitC 44 (rest.extract (k + 1) rest.size).data.toList else [])) := Lib.hid (by
              have e1 := splitC_append 44 (rest.data.toList.drop (k + 1)) (rest.data.toList.take k)
              rw [← hcut, splitC_none hno.out] at e1
              rw [HSP.out, e1, extract_front, extract_back, if_pos rfl, List.append_assoc])
            have HSPN := Lib.hid (fun W => rspanD_any (rest.extract 0 k) (by rw [ByteArray.size_extract]; omega) W)
            have HRS : Hid ((rest.extract (k + 1) rest.size).size ≤ s.size) := Lib.hid (by rw [ByteArray.size_extract]; omega)
            have HMS : Hid (strN (.string (rest.extract (k + 1) rest.size)) + boolN (.bool true) < strN (.string rest) + boolN (.bool true)) := Lib.hid (by
              show (rest.extract (k + 1) rest.size).size + 1 < rest.size + 1
              rw [ByteArray.size_extract]; omega)
            clear hcut
            clear hby hd hno
            go_wp2_with fail
            refine (HSPN.out _).mono ?_
            rintro e w2 ⟨x, y, ok, rfl, k2, hc2⟩
            have K2 := Lib.hid ((HKW.out.then k2).then (Kept.alloc (fun _ => False) w2 (.cells #[.int .i64 x, .int .i64 y] 62)))
            have HRW2 := Lib.hid ((HRW.out.on k2).alloc (.cells #[.int .i64 x, .int .i64 y] 62))
            clear k2
            rcases hc2 with ⟨rfl, hok, huni⟩ | ⟨rfl, hnone⟩
            · have HGD2 := Lib.hid (HGD.out.snoc hok huni)
              clear hok huni
              go_wp2_with (first
                | (at_builtin; refine wpList_pushG Tryz.underlying63 info_pair2 rfl (by omega) (by simp [Region.wanted, yielded]) _ _ rfl rfl w.heap.size _ _ acc [(x, y)] rfl rfl (HRW2.out.alloc _) (rowLit w2 (.cells #[.int .i64 x, .int .i64 y] 62) x y 62) (by have := HAL.out; simp; omega) (by have := K2.out.size; simp at *; omega) ?_; intro a' c' w4 hown4 hk4 hat4; have HOWN4 := Lib.hid hown4; have HKK4 := Lib.hid hk4; clear hown4 hk4 hat4)
                | fail)
              have HI2 : Hid (InvR s w (.slice a' (acc ++ [(x, y)]).length c') (.string (rest.extract (k + 1) rest.size)) (.bool true) w4 (rest.extract (k + 1) rest.size) true (acc ++ [(x, y)]) (done ++ [(rest.extract 0 k).data.toList])) := Lib.hid ⟨HOWN4.out, HGD2.out, HWD.out, (K2.out.then (Kept.alloc _ _ _)).trans HKK4.out (fun _ _ h => h) (fun i hi e => by have := HLT.out i e; omega)⟩
              go_roundw
              case rel => first | exact ⟨a', c', acc ++ [(x, y)], done ++ [(rest.extract 0 k).data.toList], rest.extract (k + 1) rest.size, true, by first | rfl | (rw [List.length_append]; rfl), rfl, rfl, HRS.out, HI2⟩ | ((repeat apply Exists.intro); exact ⟨by first | rfl | (rw [List.length_append]; rfl), rfl, rfl, HRS.out, HI2⟩)
              case measure => exact HMS.out
            · have HN : Hid (∀ t, CanD t → textD t ≠ s.data.toList) := Lib.hid fun t hc ht => by
                have e1 := HPARTS.out t hc ht
                rw [HWD.out] at e1
                have hm : (rest.extract 0 k).data.toList ∈ (spansD t).map spanT := by rw [← e1]; simp
                obtain ⟨p, hp, hpe⟩ := List.mem_map.1 hm
                exact hnone p (spansD_ok hc p hp) hpe.symm
              clear hnone
              go_wp2_with fail
              go_ret2
              exact ⟨_, _, rfl, K2.out, Or.inr ⟨rfl, HN.out⟩⟩
          · have hdn : ¬ (rest[k].toNat : Int) = 44 := fun e => hd (by
              have : rest[k].toNat = (44 : UInt8).toNat := by rw [show (44 : UInt8).toNat = 44 from rfl]; omega
              exact UInt8.toNat_inj.1 this)
            have hdb : ((rest[k].toNat : Int) == 44) = false := by rw [beq_eq_false_iff_ne]; exact hdn
            have HNX : Hid ((44 : UInt8) ∉ rest.data.toList.take (k + 1)) := Lib.hid (by
              rw [List.take_add_one, hby]
              intro hm
              rcases List.mem_append.1 hm with h | h
              · exact hno.out h
              · simp at h; exact hd h.symm)
            clear hby hd hno
            go_wp2_with fail
            go_round
            case rel => exact ⟨k + 1, by omega, by go_num, rfl, rfl, rfl, HNX⟩
            case measure => simp [intOf]; omega
        · obtain rfl : k = rest.size := by omega
          have hby := True.intro; have hd := True.intro
          have HWD : Hid (splitC 44 s.data.toList = (done ++ [rest.data.toList]) ++ (if false = true then splitC 44 rest.data.toList else [])) := Lib.hid (by
            have h5 := hno.out
            rw [show rest.data.toList.take rest.size = rest.data.toList from List.take_length] at h5
            rw [HSP.out, splitC_none h5]; simp)
          have HSPN := Lib.hid (fun W => rspanD_any rest (by omega) W)
          have HRS : Hid (rest.size ≤ s.size) := Lib.hid hrs
          have HMS : Hid (strN (.string rest) + boolN (.bool false) < strN (.string rest) + boolN (.bool true)) := Lib.hid (by
            show rest.size + 0 < rest.size + 1
            omega)
          clear hby hd hno
          go_wp2_with fail
          refine (HSPN.out _).mono ?_
          rintro e w2 ⟨x, y, ok, rfl, k2, hc2⟩
          have K2 := Lib.hid ((HKW.out.then k2).then (Kept.alloc (fun _ => False) w2 (.cells #[.int .i64 x, .int .i64 y] 62)))
          have HRW2 := Lib.hid ((HRW.out.on k2).alloc (.cells #[.int .i64 x, .int .i64 y] 62))
          clear k2
          rcases hc2 with ⟨rfl, hok, huni⟩ | ⟨rfl, hnone⟩
          · have HGD2 := Lib.hid (HGD.out.snoc hok huni)
            clear hok huni
            go_wp2_with (first
              | (at_builtin; refine wpList_pushG Tryz.underlying63 info_pair2 rfl (by omega) (by simp [Region.wanted, yielded]) _ _ rfl rfl w.heap.size _ _ acc [(x, y)] rfl rfl (HRW2.out.alloc _) (rowLit w2 (.cells #[.int .i64 x, .int .i64 y] 62) x y 62) (by have := HAL.out; simp; omega) (by have := K2.out.size; simp at *; omega) ?_; intro a' c' w4 hown4 hk4 hat4; have HOWN4 := Lib.hid hown4; have HKK4 := Lib.hid hk4; clear hown4 hk4 hat4)
              | fail)
            have HI2 : Hid (InvR s w (.slice a' (acc ++ [(x, y)]).length c') (.string (rest)) (.bool false) w4 (rest) false (acc ++ [(x, y)]) (done ++ [(rest).data.toList])) := Lib.hid ⟨HOWN4.out, HGD2.out, HWD.out, (K2.out.then (Kept.alloc _ _ _)).trans HKK4.out (fun _ _ h => h) (fun i hi e => by have := HLT.out i e; omega)⟩
            go_roundw
            case rel => first | exact ⟨a', c', acc ++ [(x, y)], done ++ [(rest).data.toList], rest, false, by first | rfl | (rw [List.length_append]; rfl), rfl, rfl, HRS.out, HI2⟩ | ((repeat apply Exists.intro); exact ⟨by first | rfl | (rw [List.length_append]; rfl), rfl, rfl, HRS.out, HI2⟩)
            case measure => exact HMS.out
          · have HN : Hid (∀ t, CanD t → textD t ≠ s.data.toList) := Lib.hid fun t hc ht => by
              have e1 := HPARTS.out t hc ht
              rw [HWD.out] at e1
              have hm : (rest).data.toList ∈ (spansD t).map spanT := by rw [← e1]; simp
              obtain ⟨p, hp, hpe⟩ := List.mem_map.1 hm
              exact hnone p (spansD_ok hc p hp) hpe.symm
            clear hnone
            go_wp2_with fail
            go_ret2
            exact ⟨_, _, rfl, K2.out, Or.inr ⟨rfl, HN.out⟩⟩
    | false =>
      have hI0 := hI.out
      obtain ⟨h1, h2, h3, h4⟩ := hI0
      rw [if_neg (by simp), List.append_nil] at h3
      have hal : acc.length ≤ 15001 := by rw [h2.len, ← h3]; exact hq
      have HOF := Lib.hid (rofD_any wr _ acc h1.row (by omega) h2.ok)
      obtain ⟨t, htc, hti⟩ := canD_spans h2.ok
      have HTX : Hid (∀ W fv f, RowG EB W fv f → f.length = 30001 → (∀ d : Nat, d ≤ 30000 → f.getD d false = spanIn acc (d : Int)) → Calls Tryz.prog 9 #[fv] W fun e w' => e = .returned (.string (strD (textD t))) ∧ Kept (fun _ => False) W w') := Lib.hid fun W fv f hf hl hv =>
        rtextD_any W fv f t hf hl htc (fun d hd => by rw [hv d hd, hti]) (by have := htc.len; rw [spansD_len]; omega)
      have HUN : Hid (∀ t', CanD t' → textD t' = s.data.toList → t' = t) := Lib.hid fun t' hc' ht' => by
        have e1 := HPARTS.out t' hc' ht'
        rw [h3] at e1
        have e2 := h2.eq (spansD t') (spansD_ok hc') e1
        refine canD_unique hc' htc fun d _ _ => ?_
        rw [hti, e2, spanIn_spansD hc']
      have HIN := Lib.hid hti; have HTC := Lib.hid htc; have HKW := Lib.hid h4
      clear h1 h2 h3 h4 hal hI htc hti
      go_wp2_with fail
      refine HOF.out.mono ?_
      rintro e w1 ⟨fv, f, rfl, hf, hfl, hfv, k1⟩
      have HF := Lib.hid hf; have K1 := Lib.hid (HKW.out.then k1); have HFV := Lib.hid hfv
      clear hf k1 hfv HOF
      by_cases heq : strD (textD t) = s
      · have HE : Hid (textD t = s.data.toList) := Lib.hid (by rw [← heq]; rfl)
        rw [heq] at HTX
        clear heq
        go_wp2_with fail
        refine (HTX.out _ fv f HF.out hfl HFV.out).mono ?_
        rintro e w2 ⟨rfl, k2⟩
        have K2 := Lib.hid (K1.out.then k2); have HF2 := Lib.hid (HF.out.on k2)
        clear k2
        go_wp2_with fail
        go_ret2
        exact ⟨_, _, rfl, K2.out, Or.inl ⟨rfl, t, f, HTC.out, HE.out, HF2.out, hfl, fun d hd => by rw [HFV.out d hd, HIN.out]⟩⟩
      · obtain ⟨T, hT⟩ : ∃ T, T = strD (textD t) := ⟨_, rfl⟩
        have hne : T.data.toList ≠ s.data.toList := fun e => heq (by
          rw [← hT]
          obtain ⟨⟨l⟩⟩ := s
          obtain ⟨⟨l2⟩⟩ := T
          have e2 : l2 = l := e
          rw [e2])
        have hb1 : (T.toList == s.toList) = false := by
          rw [beq_eq_false_iff_ne, ByteArray.toList_eq, ByteArray.toList_eq]
          exact hne
        have HN : Hid (∀ t', CanD t' → textD t' ≠ s.data.toList) := Lib.hid fun t' hc' ht' => by
          have := HUN.out t' hc' ht'
          subst this
          exact hne (by rw [hT]; exact ht')
        rw [← hT] at HTX
        clear heq hT hne
        go_wp2_with fail
        refine (HTX.out _ fv f HF.out hfl HFV.out).mono ?_
        rintro e w2 ⟨rfl, k2⟩
        have K2 := Lib.hid (K1.out.then k2)
        clear k2
        go_wp2_with fail
        go_ret2
        exact ⟨_, _, rfl, K2.out, Or.inr ⟨rfl, HN.out⟩⟩
end Go.Proofs.YtjglnpijngdpkaaGreatDoor
