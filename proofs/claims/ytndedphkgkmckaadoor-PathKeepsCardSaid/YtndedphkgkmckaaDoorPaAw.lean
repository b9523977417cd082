/-
  arbaclaw07.awake; arbaclaw07.cut.
-/
import Derived.Test.YtndedphkgkmckaaDoorPaCh
namespace Go.Proofs.YtndedphkgkmckaaDoor
open Go.RowKit Go.Maps Go.WideMaps Go.ChangeMaps
set_option linter.unusedSimpArgs false
set_option linter.unusedVariables false

set_option maxRecDepth 100000 in
theorem remove_state (w : World) (g : Nat) (mv : Value) (ts : List ByteArray) (p : ByteArray) (h : TreeL w g mv ts) (hts : ∀ s ∈ ts, IsPath s) (hl : ts.length ≤ 50000) (hsz : p.size ≤ 1000000) (hp : (namesS p).isSome = true) (hne : ¬ p.toList = [47]) (hm : memS p ts = true) (hch : ∃ c, c ∈ ts ∧ keepCh p c = true) :
    Calls Tryd.prog 21 #[.pointer (some ⟨g, 0, none⟩), .string p] w fun e w' => e = .returned (.tuple #[.pointer none, .int .i64 7]) ∧ Kept (fun _ => False) w w' := by
  have hv := pvalid_any p hsz w
  rw [hp] at hv
  have HV := Lib.hid hv
  have e1b : (p.toList == [47]) = false := beq_eq_false_iff_ne.2 hne
  have HH := Lib.hid (fun W (hk : Kept (fun _ => False) w W) => has_any W g mv ts p (h.stay hk) hsz)
  have hhs : hasS ts p = true := by unfold hasS; rw [hm]; simp
  rw [hhs] at HH
  have HC := Lib.hid (fun W (hk : Kept (fun _ => False) w W) => children_any W g mv ts p (h.stay hk) hts hl)
  have HCH := Lib.hid hch
  clear hv hhs h hts hl hsz hp hm hch
  go_enter Tryd.func21, Tryd.ntmps21
  go_wp2_with fail
  refine HV.out.mono ?_
  rintro e w1 ⟨rfl, hk1⟩
  have HH1 := Lib.hid (HH.out w1 hk1)
  have HC1 := Lib.hid (HC.out w1 hk1)
  have HK1 := Lib.hid hk1
  clear hk1
  go_wp2_with fail
  refine HH1.out.mono ?_
  rintro e w2 ⟨rfl, rfl⟩
  go_wp2_with fail
  refine HC1.out.mono ?_
  rintro e w3 ⟨v, r, rfl, hr⟩
  obtain ⟨a, c, rfl, _⟩ := hr.row.form
  have hpos : 0 < r.length := by
    obtain ⟨x, h1, h2⟩ := HCH.out
    exact List.length_pos_of_mem ((hr.mem x).2 ⟨h1, h2⟩)
  obtain ⟨n, hn⟩ : ∃ n, n = r.length := ⟨_, rfl⟩
  rw [← hn] at hpos ⊢
  have hposi : (0 : Int) < (n : Int) := by omega
  have HK3 := Lib.hid (HK1.out.then hr.kept)
  clear hr hn hpos
  go_wp2_with fail
  go_ret2
  exact ⟨rfl, HK3.out⟩

def sA : ByteArray := ⟨#[47, 97]⟩
def sAB : ByteArray := ⟨#[47, 97, 47, 98]⟩
def sAC : ByteArray := ⟨#[47, 97, 47, 99]⟩
def sABC : ByteArray := ⟨#[47, 97, 47, 98, 46, 99]⟩
def sAs : ByteArray := ⟨#[47, 97, 47]⟩
def sab : ByteArray := ⟨#[47, 97, 98]⟩
def sAdB : ByteArray := ⟨#[47, 97, 45, 98]⟩
theorem nAB : namesS sAB = some [⟨#[97]⟩, ⟨#[98]⟩] := by kernel_rfl
theorem nAC : namesS sAC = some [⟨#[97]⟩, ⟨#[99]⟩] := by kernel_rfl
theorem nA : namesS sA = some [⟨#[97]⟩] := by kernel_rfl
theorem nABC : namesS sABC = some [⟨#[97]⟩, ⟨#[98, 46, 99]⟩] := by kernel_rfl
theorem nAs : namesS sAs = none := by kernel_rfl
theorem cAC : commonS sAB sAC = some sA := by kernel_rfl
theorem wab : withinS sab sA = false := by kernel_rfl
theorem wAB : withinS sAB sA = true := by kernel_rfl
theorem cmpAd : compareS sAB sAdB = -1 := by kernel_rfl
theorem add1 : addL (fun k => pathS (([⟨#[97]⟩, ⟨#[98]⟩] : List ByteArray).take k)) 2 [] = [sA, sAB] := by kernel_rfl
theorem add2 : addL (fun k => pathS (([⟨#[97]⟩, ⟨#[99]⟩] : List ByteArray).take k)) 2 [sA, sAB] = [sAC, sA, sAB] := by kernel_rfl
theorem kAB : keepCh sA sAB = true := by kernel_rfl
theorem kAC : keepCh sA sAC = true := by kernel_rfl
theorem kA : keepCh sA sA = false := by kernel_rfl
theorem sortedABAC : SortedP [sAB, sAC] := by
  refine ⟨?_, fun x hx => ?_⟩
  · refine List.pairwise_cons.2 ⟨fun y hy => ?_, List.pairwise_cons.2 ⟨fun y hy => by simp at hy, List.Pairwise.nil⟩⟩
    simp at hy
    subst hy
    have : compareS sAB sAC = -1 := by kernel_rfl
    omega
  · simp at hx
    rcases hx with rfl | rfl
    · unfold IsPath; rw [nAB]; rfl
    · unfold IsPath; rw [nAC]; rfl
theorem tree_paths : ∀ s ∈ [sAC, sA, sAB], IsPath s := fun s hs => by
  simp at hs
  unfold IsPath
  rcases hs with rfl | rfl | rfl
  · rw [nAC]; rfl
  · rw [nA]; rfl
  · rw [nAB]; rfl
end Go.Proofs.YtndedphkgkmckaaDoor
