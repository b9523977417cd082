/-
  Trees of paths: Add, Has.
-/
import Derived.Test.YtndedphkgkmckaaDoorPaU
namespace Go.Proofs.YtndedphkgkmckaaDoor
open Go.RowKit Go.Maps Go.WideMaps Go.ChangeMaps
set_option linter.unusedSimpArgs false
set_option linter.unusedVariables false

/-- A list with a further path, each once. -/
def insU (ts : List ByteArray) (y : ByteArray) : List ByteArray := if memS y ts = true then ts else y :: ts
theorem mem_insU {ts : List ByteArray} {y s : ByteArray} : s ∈ insU ts y ↔ s = y ∨ s ∈ ts := by
  unfold insU
  split
  · next h => exact ⟨Or.inr, fun e => e.elim (fun e => e ▸ (memS_iff _ _).1 h) id⟩
  · exact List.mem_cons
theorem nodup_insU {ts : List ByteArray} (h : ts.Nodup) (y : ByteArray) : (insU ts y).Nodup := by
  unfold insU
  split
  · exact h
  · next hn => exact List.nodup_cons.2 ⟨fun e => hn ((memS_iff _ _).2 e), h⟩
/-- The tree's paths with so many of the paths above one. -/
def addL (T : Nat → ByteArray) : Nat → List ByteArray → List ByteArray
  | 0, ts => ts
  | k + 1, ts => addL T k (insU ts (T (k + 1)))
theorem nodup_addL (T : Nat → ByteArray) : ∀ (k : Nat) (ts : List ByteArray), ts.Nodup → (addL T k ts).Nodup
  | 0, _, h => h
  | k + 1, ts, h => nodup_addL T k _ (nodup_insU h _)
theorem length_insU (ts : List ByteArray) (y : ByteArray) : (insU ts y).length ≤ ts.length + 1 := by unfold insU; split <;> simp
theorem length_addL (T : Nat → ByteArray) : ∀ (k : Nat) (ts : List ByteArray), (addL T k ts).length ≤ ts.length + k
  | 0, _ => Nat.le_refl _
  | k + 1, ts => by have := length_addL T k (insU ts (T (k + 1))); have := length_insU ts (T (k + 1)); unfold addL; omega

/-- A tree in memory, with a list of its paths but the first one. -/
abbrev TreeL (w : World) (g : Nat) (mv : Value) (ts : List ByteArray) : Prop := TreeAt w g mv (fun s => memS s ts) ts.length

theorem mapB_ins {D : DataW Unit} {ts : List ByteArray} {y : ByteArray} (h : MapB D (fun s => memS s ts)) (hD : IsMap D) : MapB (D.put (.string y.data.toList) (.lit (.bool true))) (fun s => memS s (insU ts y)) := by
  have e : (fun s => memS s (insU ts y)) = fun s => (decide (s = y) || memS s ts) := by
    funext s
    rw [Bool.eq_iff_iff]
    rw [memS_iff, Bool.or_eq_true, decide_eq_true_iff, memS_iff, mem_insU]
  rw [e]
  exact h.put y hD
theorem size_ins {D : DataW Unit} {ts : List ByteArray} {y : ByteArray} (h : MapB D (fun s => memS s ts)) (hD : Tidy D) (hs : Maps.size D = ts.length) : Maps.size (D.put (.string y.data.toList) (.lit (.bool true))) = (insU ts y).length := by
  rw [Maps.size_put hD, (h y).1, hs]
  unfold insU
  cases e : memS y ts with
  | true => simp [e]
  | false => simp [e]

theorem names_root : namesS (⟨#[47]⟩ : ByteArray) = some [] := namesS_root
theorem path_ne_root {p : ByteArray} {xs : List ByteArray} (hp : namesS p = some xs) (k : Nat) (h0 : 0 < k) (hk : k ≤ xs.length) : ¬ (pathS (xs.take k)).toList = [47] := by
  intro e
  have hn := names_take hp k
  have : pathS (xs.take k) = ⟨#[47]⟩ := data_inj (by rw [← ByteArray.toList_eq]; exact e)
  rw [this, names_root] at hn
  injection hn with hn
  have := congrArg List.length hn
  rw [List.length_take, List.length_nil] at this
  omega

set_option maxRecDepth 100000 in
set_option maxHeartbeats 3200000 in
theorem add_no (w : World) (g : Nat) (p : ByteArray) (hp : p.size ≤ 1000000) (hn : namesS p = none) :
    Calls Tryd.prog 19 #[.pointer (some ⟨g, 0, none⟩), .string p] w fun e w' => e = .returned (.tuple #[.pointer none, .int .i64 6]) ∧ Kept (fun _ => False) w w' := by
  have HC := Lib.hid (pvalid_any p hp)
  rw [hn] at HC
  clear hn
  go_enter Tryd.func19, Tryd.ntmps19
  go_wp2_with fail
  refine (HC.out _).mono ?_
  rintro e w1 ⟨rfl, hk1⟩
  have HK1 := Lib.hid hk1
  clear hk1
  go_wp2_with fail
  go_ret2
  exact ⟨rfl, HK1.out⟩

set_option maxRecDepth 100000 in
set_option maxHeartbeats 3200000 in
theorem add_ok (w : World) (g : Nat) (mv : Value) (ts : List ByteArray) (p : ByteArray) (xs : List ByteArray) (h : TreeL w g mv ts) (hp : p.size ≤ 1000000) (hn : namesS p = some xs) (hl : ts.length ≤ 50000) :
    Calls Tryd.prog 19 #[.pointer (some ⟨g, 0, none⟩), .string p] w fun e w' => ∃ g' m', e = .returned (.tuple #[.pointer (some ⟨g', 0, none⟩), .int .i64 0]) ∧ TreeL w' g' (.map (some m')) (addL (fun k => pathS (xs.take k)) xs.length ts) ∧ w.heap.size ≤ g' ∧ w.heap.size ≤ m' ∧ m' ≠ g' ∧ Kept (fun _ => False) w w' := by
  have HC := Lib.hid (pvalid_any p hp)
  rw [hn] at HC
  have hp0 : p = pathS (xs.take xs.length) := by rw [List.take_length]; exact (pathS_names hn).1
  have hx8 : xs.length ≤ 8 := (pathS_names hn).2.2
  have HPa : Hid (∀ k, 0 < k → k ≤ xs.length → ∀ W, Calls Tryd.prog 23 #[.string (pathS (xs.take k))] W fun e w' => e = .returned (.tuple #[.string (pathS (xs.take (k - 1))), .bool true]) ∧ Kept (fun _ => False) W w') := fun k h0 hk W => by
    have := parent_any (pathS (xs.take k)) (by have := path_size (names_take hn k); omega) W
    rw [parent_take hn k h0 hk] at this
    exact this
  have HNE : Hid (∀ k, 0 < k → k ≤ xs.length → ¬ (pathS (xs.take k)).toList = [47]) := fun k h0 hk => path_ne_root hn k h0 hk
  have HKEY : Hid (∀ k, keyOf Tryd.prog 9 (.string (pathS (xs.take k))) = some (.string (pathS (xs.take k)).data.toList)) := fun k => keyOf_string_mk Tryd.underlying9 (by have := path_size (names_take hn k); unfold maxLen; omega)
  have HT : Hid (∀ k, k < xs.length → (pathS (xs.take k)).size < (pathS (xs.take (k + 1))).size) := fun k hk => take_size hn k hk
  have HR : Hid ((pathS (xs.take 0)).toList = [47]) := by show _ = _; rw [ByteArray.toList_eq]; rfl
  have HCO := Lib.hid (fun W (hk : Kept (fun _ => False) w W) => copied_any W g mv _ _ (h.stay hk))
  have hgl := h.lt
  obtain ⟨n, hnn⟩ : ∃ n, n = xs.length := ⟨_, rfl⟩
  rw [← hnn] at hp0 HPa HNE HT hx8 ⊢
  generalize hT : (fun k => pathS (xs.take k)) = T
  have hTk : ∀ k, pathS (xs.take k) = T k := fun k => by rw [← hT]
  rw [hTk] at hp0 HR
  simp only [hTk] at HPa HNE HT HKEY
  clear hn hnn hT hTk hp h
  subst hp0
  obtain ⟨c, hc⟩ : ∃ c, c = ts.length := ⟨_, rfl⟩
  rw [← hc] at HCO hl
  have HCC := Lib.hid hc
  clear hc
  go_enter Tryd.func19, Tryd.ntmps19
  go_wp2_with fail
  refine (HC.out _).mono ?_
  rintro e w1 ⟨rfl, hk1⟩
  have HCO1 := Lib.hid (HCO.out w1 hk1)
  have HK1 := Lib.hid hk1
  have hs1 := hk1.size
  clear hk1
  go_wp2_with fail
  refine HCO1.out.mono ?_
  rintro e w2 ⟨m, D, rfl, ho, hmb, hsz, hml, hk2⟩
  have HI := Lib.hid (⟨D, c, ho, hmb, by rw [hsz]; exact HCC.out, Nat.le_refl _⟩ : ∃ D N, OwnMB w2 m N D ∧ MapB D (fun s => memS s ts) ∧ Maps.size D = ts.length ∧ N ≤ c)
  have HK2 := Lib.hid (HK1.out.then hk2)
  have hmw : w.heap.size ≤ m := by omega
  clear ho hmb hsz hk2 HCO1 hml hs1
  go_wp2_with fail
  go_loopw [1] (fun pv wr => ∃ (k : Nat) (us : List ByteArray), k ≤ n ∧ pv = .string (T k) ∧ Hid (addL T k us = addL T n ts) ∧ Hid (∃ D N, OwnMB wr m N D ∧ MapB D (fun s => memS s us) ∧ Maps.size D = us.length ∧ N + k ≤ c + n) ∧ Hid (Kept (fun _ => False) w wr)) (fun pv _ => strSz pv)
  case atStart =>
    obtain ⟨D, N, h1, h2, h3, h4⟩ := HI.out
    exact ⟨n, ts, Nat.le_refl _, rfl, Lib.hid rfl, Lib.hid ⟨D, N, h1, h2, h3, by omega⟩, HK2⟩
  case round =>
    obtain ⟨k, us, hkn, rfl, hadd, hm, hkw⟩ := hrel
    by_cases h0 : k = 0
    · subst h0
      have e1 := HR.out
      have e1b : ((T 0).toList == [47]) = true := by rw [e1]; rfl
      obtain ⟨D, N, h1, h2, h3, h4⟩ := hm.out
      have hus : us = addL T n ts := hadd.out
      have htree : ∀ mvv, mvv = Value.map (some m) → TreeL (wr.alloc (.cells #[mvv] 69)) wr.heap.size (.map (some m)) (addL T n ts) := fun mvv hmv => by
        subst hmv
        refine ⟨by go_simp, Or.inr ⟨m, N, D, rfl, ownMB_kept h1 (Kept.alloc (fun _ => False) _ _) (fun h => h), by rw [← hus]; exact h2, by rw [← hus]; exact h3, by omega⟩⟩
      have HTR := Lib.hid (htree _ rfl)
      have hml := h1.lt
      have hsw := hkw.out.size
      have HKE := Lib.hid (hkw.out.then (Kept.alloc (fun _ => False) wr (.cells #[.map (some m)] 69)))
      clear htree h1 h2 h3 h4 hus hadd hm
      go_wp2_with fail
      go_ret2
      exact ⟨_, _, rfl, HTR.out, by omega, hmw, by omega, HKE.out⟩
    · have hk0 : 0 < k := by omega
      have e1 := HNE.out k hk0 hkn
      have e1b : ((T k).toList == [47]) = false := beq_eq_false_iff_ne.2 e1
      have hkey := HKEY.out k
      have HPk := Lib.hid (HPa.out k hk0 hkn)
      have HSk := Lib.hid (HT.out (k - 1) (by omega))
      have ek : k - 1 + 1 = k := by omega
      rw [ek] at HSk
      obtain ⟨D, N, h1, h2, h3, h4⟩ := hm.out
      have H2 := Lib.hid h2; have H3 := Lib.hid h3
      have hisM := h1.isMap
      have htidy := h1.tidy lawT
      have HIM := Lib.hid hisM; have HTI := Lib.hid htidy
      have hnext : addL T (k - 1) (insU us (T k)) = addL T n ts := by
        rw [← hadd.out]
        conv => rhs; rw [← ek]
        rw [addL, ek]
      have HNX := Lib.hid hnext
      clear h2 h3 hisM htidy hnext hadd hm ek
      go_wp2_with (first
        | (at_mapUpdate; refine wpList_mapUpdate_own _ rfl _ _ _ 67 rfl 9 4 lawT Tryd.underlying67 _ m _ _ rfl h1 (by unfold maxLen; omega) _ _ _ rfl rfl hkey _ [] (pl_bool true) ?_; intro w3 hout3 hg3; go_frame)
        | fail)
      have HK3 : Hid (Kept (fun _ => False) w w3) := hkw.out.trans (Kept.ofGrown (S := fun k => k = m) hg3 (fun k e => (Option.some.inj e).symm)) (fun _ _ h => h) (fun i hi e => by omega)
      have HM3 : Hid (∃ D N, OwnMB w3 m N D ∧ MapB D (fun s => memS s (insU us (T k))) ∧ Maps.size D = (insU us (T k)).length ∧ N + (k - 1) ≤ c + n) := ⟨_, N + 1, hout3, mapB_ins H2.out HIM.out, size_ins H2.out HTI.out H3.out, by omega⟩
      clear hout3 hg3 h1 hkey
      go_wp2_with fail
      refine (HPk.out _).mono ?_
      rintro e w4 ⟨rfl, hk4⟩
      have HK4 := Lib.hid (HK3.out.then hk4)
      have HM4 : Hid (∃ D N, OwnMB w4 m N D ∧ MapB D (fun s => memS s (insU us (T k))) ∧ Maps.size D = (insU us (T k)).length ∧ N + (k - 1) ≤ c + n) := by
        obtain ⟨D, N, h1, h2, h3, h4⟩ := HM3.out
        exact ⟨D, N, ownMB_kept h1 hk4 (fun h => h), h2, h3, h4⟩
      clear hk4
      go_wp2_with fail
      go_roundw
      case rel => exact ⟨k - 1, _, by omega, rfl, HNX, HM4, HK4⟩
      case measure => exact HSk.out
end Go.Proofs.YtndedphkgkmckaaDoor
