/-
  path.Join; the reference's Join.
-/
import Derived.Test.YtbmkfacmbjnkaaaDoorPaN
import Derived.Test.YtbmkfacmbjnkaaaDoorPaC
import Derived.Shelf.Strings.OnBuilder
namespace Go.Proofs.YtbmkfacmbjnkaaaDoor
open Go.RowKit Go.Shelf
set_option linter.unusedSimpArgs false
set_option linter.unusedVariables false
set_option maxRecDepth 100000

def laysJoin_ren : Go.Shelf.Ren := ⟨fun | 156 => 59 | 165 => 84 | 166 => 85 | 169 => 86 | 240 => 97 | 241 => 98 | 276 => 107 | 277 => 108 | n => n, fun | 0 => 0 | 3 => 3 | 4 => 4 | 5 => 5 | 9 => 9 | 20 => 20 | 31 => 24 | 37 => 42 | 70 => 96 | 72 => 98 | 75 => 101 | 76 => 102 | 80 => 59 | 127 => 113 | 164 => 118 | n => n, fun | n => n⟩
theorem laysJoin : Go.Proofs.Lays.n156 Tryd.prog laysJoin_ren := {
  mixed := by kernel_rfl
  f156 := Tryd.func59.trans (congrArg some (by kernel_rfl))
  f165 := Tryd.func84.trans (congrArg some (by kernel_rfl))
  f166 := Tryd.func85.trans (congrArg some (by kernel_rfl))
  f169 := Tryd.func86.trans (congrArg some (by kernel_rfl))
  f240 := Tryd.func97.trans (congrArg some (by kernel_rfl))
  f241 := Tryd.func98.trans (congrArg some (by kernel_rfl))
  f276 := Tryd.func107.trans (congrArg some (by kernel_rfl))
  f277 := Tryd.func108.trans (congrArg some (by kernel_rfl))
  t0 := Tryd.underlying0
  a0 := Tryd.isAgg0
  z0 := Tryd.sizeOf0
  v0 := Tryd.zeroValue0
  t3 := Tryd.underlying3
  a3 := Tryd.isAgg3
  z3 := Tryd.sizeOf3
  v3 := Tryd.zeroValue3
  t4 := Tryd.underlying4
  a4 := Tryd.isAgg4
  z4 := Tryd.sizeOf4
  v4 := Tryd.zeroValue4
  t9 := Tryd.underlying9
  a9 := Tryd.isAgg9
  z9 := Tryd.sizeOf9
  v9 := Tryd.zeroValue9
  t20 := Tryd.underlying20
  a20 := Tryd.isAgg20
  z20 := Tryd.sizeOf20
  v20 := Tryd.zeroValue20
  t31 := Tryd.underlying24
  a31 := Tryd.isAgg24
  z31 := Tryd.sizeOf24
  v31 := Tryd.zeroValue24
  t37 := Tryd.underlying42
  a37 := Tryd.isAgg42
  z37 := Tryd.sizeOf42
  v37 := Tryd.zeroValue42
  t70 := Tryd.underlying96
  a70 := Tryd.isAgg96
  z70 := Tryd.sizeOf96
  v70 := Tryd.zeroValue96
  t72 := Tryd.underlying98
  a72 := Tryd.isAgg98
  z72 := Tryd.sizeOf98
  v72 := Tryd.zeroValue98
  t75 := Tryd.underlying101
  a75 := Tryd.isAgg101
  z75 := Tryd.sizeOf101
  v75 := Tryd.zeroValue101
  t76 := Tryd.underlying102
  a76 := Tryd.isAgg102
  z76 := Tryd.sizeOf102
  v76 := Tryd.zeroValue102
  t127 := Tryd.underlying113
  a127 := Tryd.isAgg113
  z127 := Tryd.sizeOf113
  v127 := Tryd.zeroValue113
  t164 := Tryd.underlying118
  a164 := Tryd.isAgg118
  z164 := Tryd.sizeOf118
  v164 := Tryd.zeroValue118 }

theorem laysJoinX : Go.Proofs.Builder.Extra Tryd.prog laysJoin_ren := {
  sizeBuilder := by kernel_rfl
  liesBuilder := by kernel_rfl
  t5 := Tryd.underlying5
  a5 := Tryd.isAgg5
  z5 := Tryd.sizeOf5
  v5 := Tryd.zeroValue5
  infoByte := by kernel_rfl
  cellsByte := by kernel_rfl
  sizeByte := by kernel_rfl
  neB5 := by decide }

/-- Names, joined. -/
def joinS (xs : List ByteArray) : ByteArray := ⟨(Lib.join (xs.map (·.data.toList)) [47]).toArray⟩
theorem join_path (xs : List ByteArray) : 47 :: Lib.join (xs.map (·.data.toList)) [47] = pathL (xs.map (·.data.toList)) := by
  cases xs with
  | nil => rfl
  | cons x t =>
    rw [List.map_cons, Lib.join_cons]
    show _ = (x.data.toList :: t.map (·.data.toList)).flatMap (fun y => 47 :: y)
    unfold Lib.joinTail
    simp [List.flatMap, List.map_map]
theorem joinS_size (xs : List ByteArray) (hl : xs.length ≤ 8) (hx : ∀ x ∈ xs, x.size ≤ 12) : (joinS xs).size ≤ 200 := by
  have h1 : (joinS xs).size + 1 = (pathL (xs.map (·.data.toList))).length := by
    rw [← join_path]
    show (Lib.join _ _).toArray.size + 1 = _
    simp
  cases xs with
  | nil => decide
  | cons x t =>
    rw [pathL_cons (by simp)] at h1
    have h2 : ∀ l : List ByteArray, (∀ x ∈ l, x.size ≤ 12) → ((l.map (·.data.toList)).flatMap (fun x => 47 :: x)).length ≤ 13 * l.length := fun l => by
      induction l with
      | nil => intro _; simp
      | cons y s ih =>
        intro h
        have h3 := h y (by simp)
        have h4 := ih (fun z hz => h z (by simp [hz]))
        have h5 : y.data.toList.length = y.size := rfl
        simp only [List.map_cons, List.flatMap_cons, List.length_append, List.length_cons] at h4 ⊢
        omega
    have := h2 (x :: t) hx
    omega

theorem sjoin_any (v : Value) (xs : List ByteArray) (w : World) (h : Strs w v xs) (hl : xs.length ≤ 8) (hx : ∀ x ∈ xs, x.size ≤ 12) :
    Calls Tryd.prog 59 #[v, .string ⟨#[47]⟩] w fun e w' => e = .returned (.string (joinS xs)) ∧ Kept (fun _ => False) w w' := by
  have hz := joinS_size xs hl hx
  rcases h with ⟨rfl, rfl⟩ | ⟨g, off, cap, rfl, h1, h2, h3, h4⟩
  · exact (Any.strings_Join_none (P := Tryd.prog) (ρ := laysJoin_ren) laysJoin laysJoinX none 0 ⟨#[47]⟩ w).mono fun e w' ⟨h5, h6⟩ => ⟨h5, by rw [h6]; exact Kept.refl _ _⟩
  · have hS := Any.strings_Join (P := Tryd.prog) (ρ := laysJoin_ren) laysJoin laysJoinX g off cap xs ⟨#[47]⟩ w (fun j x hj => by
      have hjl : j < xs.length := (List.getElem?_eq_some_iff.1 hj).1
      rw [h4 j hjl, List.getD_eq_getElem?_getD, hj]
      rfl) h3 (by omega) h1 (by
      have : (joinS xs).size = (Lib.join (xs.map (·.data.toList)) [47]).length := by unfold joinS; simp [ByteArray.size]
      have e : (⟨#[47]⟩ : ByteArray).data.toList = [47] := rfl
      rw [e]; omega)
    exact hS.mono fun e w' ⟨h5, h6⟩ => ⟨h5, Kept.ofBelow _ h6⟩

/-- What Join says of names. -/
def joinE (xs : List ByteArray) : Nat := if 8 < xs.length then 3 else if xs.all nameS = true then 0 else 6
def joinP (xs : List ByteArray) : ByteArray := if joinE xs = 0 then pathS xs else ⟨#[]⟩
theorem join_add (xs : List ByteArray) : (⟨#[47]⟩ : ByteArray) ++ joinS xs = pathS xs := by
  have h : ((⟨#[47]⟩ : ByteArray) ++ joinS xs).data.toList = (pathS xs).data.toList := by
    rw [ByteArray.data_append, Array.toList_append]
    show [47] ++ (Lib.join (xs.map (·.data.toList)) [47]).toArray.toList = _
    rw [List.toList_toArray]
    show 47 :: Lib.join (xs.map (·.data.toList)) [47] = _
    rw [join_path]
    unfold pathS
    rw [mkS_list]
  exact str_ext h

set_option maxHeartbeats 1600000 in
theorem pjoin_any (v : Value) (xs : List ByteArray) (w : World) (h : Strs w v xs) (hl : xs.length ≤ 1000) :
    Calls Tryd.prog 25 #[v] w fun e w' => e = .returned (.tuple #[.string (joinP xs), .int .i64 (joinE xs : Nat)]) ∧ Kept (fun _ => False) w w' := by
  have HA := Lib.hid (allNames_any v xs w h)
  by_cases h8 : 8 < xs.length
  · have e1 : joinE xs = 3 := if_pos h8
    have e2 : joinP xs = ⟨#[]⟩ := by unfold joinP; rw [e1]; rfl
    rw [e1, e2]
    obtain ⟨a, c, rfl, _, _⟩ := h.form
    obtain ⟨n, hn⟩ : ∃ n, n = xs.length := ⟨_, rfl⟩
    rw [← hn] at h8 ⊢
    have l1 : (8 : Int) < (n : Int) := by omega
    clear h hl hn e1 e2 HA h8
    go_enter Tryd.func25, Tryd.ntmps25
    go_wp2_with fail
    go_ret2
    exact ⟨rfl, Kept.refl _ _⟩
  · cases hall : xs.all nameS with
    | false =>
      have e1 : joinE xs = 6 := by unfold joinE; rw [if_neg h8, hall]; rfl
      have e2 : joinP xs = ⟨#[]⟩ := by unfold joinP; rw [e1]; rfl
      rw [e1, e2]
      rw [hall] at HA
      obtain ⟨a, c, rfl, _, _⟩ := h.form
      obtain ⟨n, hn⟩ : ∃ n, n = xs.length := ⟨_, rfl⟩
      rw [← hn] at h8 HA ⊢
      have l1 : ¬ (8 : Int) < (n : Int) := by omega
      clear h hl hn e1 e2 h8 hall
      go_enter Tryd.func25, Tryd.ntmps25
      go_wp2_with fail
      refine HA.out.mono ?_
      rintro e w1 ⟨rfl, rfl⟩
      go_wp2_with fail
      go_ret2
      exact ⟨rfl, Kept.refl _ _⟩
    | true =>
      have e1 : joinE xs = 0 := by unfold joinE; rw [if_neg h8, hall]; rfl
      have e2 : joinP xs = pathS xs := by unfold joinP; rw [e1]; rfl
      rw [e1, e2]
      rw [hall] at HA
      have hx : ∀ x ∈ xs, x.size ≤ 12 := fun x hx => by
        have := nameL_len (List.all_eq_true.1 hall x hx)
        have e : x.size = x.data.toList.length := rfl
        omega
      have hj := sjoin_any v xs w h (by omega) hx
      have hz := joinS_size xs (by omega) hx
      have HP := Lib.hid (join_add xs)
      generalize joinS xs = js at hj hz HP
      have HJ := Lib.hid hj
      have hz2 : ¬ 9223372036854775807 < 1 + js.size := by omega
      obtain ⟨a, c, rfl, _, _⟩ := h.form
      obtain ⟨n, hn⟩ : ∃ n, n = xs.length := ⟨_, rfl⟩
      rw [← hn] at h8 HA HJ ⊢
      have l1 : ¬ (8 : Int) < (n : Int) := by omega
      obtain ⟨V, hV⟩ : ∃ V, V = pathS xs := ⟨_, rfl⟩
      rw [← hV] at HP ⊢
      clear h hl hn e1 e2 h8 hall hx hj hV
      go_enter Tryd.func25, Tryd.ntmps25
      go_wp2_with fail
      refine HA.out.mono ?_
      rintro e w1 ⟨rfl, rfl⟩
      go_wp2_with fail
      refine HJ.out.mono ?_
      rintro e w2 ⟨rfl, k2⟩
      have K2 := Lib.hid k2
      clear k2
      go_wp2_with fail
      go_ret2
      obtain rfl := HP.out
      exact ⟨rfl, K2.out⟩

set_option maxHeartbeats 1600000 in
theorem rjoin_any (v : Value) (xs : List ByteArray) (w : World) (h : Strs w v xs) (hl : xs.length ≤ 1000) (hx : ∀ x ∈ xs, x.size ≤ 1000000) :
    Calls Tryd.prog 27 #[v] w fun e w' => e = .returned (.int .i64 (joinE xs : Nat)) ∧ Kept (fun _ => False) w w' := by
  obtain ⟨a, c, rfl, _, _⟩ := h.form
  by_cases h8 : 8 < xs.length
  · have e1 : joinE xs = 3 := if_pos h8
    rw [e1]
    obtain ⟨n, hn⟩ : ∃ n, n = xs.length := ⟨_, rfl⟩
    rw [← hn] at h8 ⊢
    have l1 : (8 : Int) < (n : Int) := by omega
    clear h hl hn e1 h8 hx
    go_enter Tryd.func27, Tryd.ntmps27
    go_wp2_with fail
    go_ret
    exact ⟨rfl, Kept.refl _ _⟩
  · have HS := Lib.hid h
    obtain ⟨V, hV⟩ : ∃ V : Nat, V = joinE xs := ⟨_, rfl⟩
    rw [← hV]
    have hV2 : V = if xs.all nameS = true then 0 else 6 := by rw [hV]; unfold joinE; rw [if_neg h8]
    have HV := Lib.hid hV2
    have HX := Lib.hid hx
    obtain ⟨n, hn⟩ : ∃ n, n = xs.length := ⟨_, rfl⟩
    rw [← hn] at h8 HS ⊢
    have l1 : ¬ (8 : Int) < (n : Int) := by omega
    have hnb : n ≤ 8 := by omega
    have HN := Lib.hid hn
    clear h hl hn h8 hx hV hV2
    go_enter Tryd.func27, Tryd.ntmps27
    go_wp2_with fail
    go_loopw [4, 10] (fun sv iv wr => ∃ k : Nat, k ≤ n ∧ iv = .int .i64 k ∧ Hid (∀ j, j < k → nameS (xs.getD j ⟨#[]⟩) = true) ∧ wr = w) (fun _ iv _ => n - (intOf iv).toNat)
    case atStart => exact ⟨0, by omega, rfl, fun j hj => by omega, rfl⟩
    case round =>
      obtain ⟨k, hk, rfl, hb, rfl⟩ := hrel
      have l0 : (0 : Int) ≤ (k : Int) := by omega
      by_cases hlt : k < n
      · have l2 : (k : Int) < (n : Int) := by omega
        obtain ⟨g, off, rfl, _, hcell⟩ := HS.out.at (k := k) (by have := HN.out; omega)
        have hmem : xs.getD k ⟨#[]⟩ ∈ xs := by
          rw [List.getD_eq_getElem?_getD, List.getElem?_eq_getElem (by have := HN.out; omega)]; exact List.getElem_mem _
        have hsz := HX.out _ hmem
        have HMEM := Lib.hid hmem
        have HB := Lib.hid hb.out
        obtain ⟨x, hx⟩ : ∃ x, x = xs.getD k ⟨#[]⟩ := ⟨_, rfl⟩
        rw [← hx] at hcell hsz
        have HXX := Lib.hid hx
        clear hx hmem hb
        have hnm := fun W => risName_any x hsz W
        cases hv : nameS x with
        | true =>
          rw [hv] at hnm
          have HNM := Lib.hid hnm
          have HB2 : Hid (∀ j, j < k + 1 → nameS (xs.getD j ⟨#[]⟩) = true) := fun j hj => by
            by_cases e : j < k
            · exact HB.out j e
            · obtain rfl : j = k := by omega
              rw [← HXX.out]; exact hv
          clear hnm hv hsz
          go_wp2_with fail
          refine (HNM.out _).mono ?_
          rintro e w1 ⟨rfl, rfl⟩
          go_wp2_with fail
          go_roundw
          case rel => first | exact ⟨k + 1, by omega, by go_num, HB2, rfl⟩ | ((repeat apply Exists.intro); exact ⟨⟨k + 1, by omega, by go_num, HB2, rfl⟩, rfl⟩) | ((repeat apply Exists.intro); exact ⟨by omega, by go_num, HB2, trivial⟩)
          case measure => simp [intOf]; omega
        | false =>
          rw [hv] at hnm
          have HNM := Lib.hid hnm
          have hV6 : V = 6 := by
            rw [HV.out, if_neg]
            intro hall
            have := List.all_eq_true.1 hall _ HMEM.out
            rw [← HXX.out, hv] at this
            cases this
          clear hnm hv hsz
          subst hV6
          go_wp2_with fail
          refine (HNM.out _).mono ?_
          rintro e w1 ⟨rfl, rfl⟩
          go_wp2_with fail
          go_ret
          exact ⟨rfl, Kept.refl _ _⟩
      · have l2 : ¬ (k : Int) < (n : Int) := by omega
        have hV0 : V = 0 := by
          rw [HV.out, if_pos]
          rw [List.all_eq_true]
          intro x hx
          obtain ⟨i, hi, rfl⟩ := List.getElem_of_mem hx
          have := hb.out i (by have := HN.out; omega)
          rw [List.getD_eq_getElem?_getD, List.getElem?_eq_getElem hi] at this
          exact this
        clear hb
        subst hV0
        go_wp2_with fail
        go_ret
        exact ⟨rfl, Kept.refl _ _⟩
end Go.Proofs.YtbmkfacmbjnkaaaDoor
