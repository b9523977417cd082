/-
  A damage that came in: three numbers and a slice of bytes.
-/
import Derived.Test.YtaoidabelclipaaDoorLbIn
namespace Go.Proofs.YtaoidabelclipaaDoor
open Go.Joins Go.ChangeShapes Go.WideShapes Go.ChangeAt Go.RowKit Go.Deep

set_option maxRecDepth 100000 in
theorem damage_in {H : Type} {enc : TypeId × Value → H} {W : World} {base : Nat} {v : Value} {d : DataW H} {p : List MemPlace} (o : Value.okWide Tryd.prog W .any base 66 v) (h : DataW.Trod enc Tryd.prog W 0 (fun _ => true) true 66 v d p) :
    ∃ (kd bt at' : Nat) (ma : Option Addr) (mn mc : Nat) (ms : List Nat), v = .agg #[.int .u8 kd, .int .u8 bt, .int .u16 at', .slice ma mn mc] ∧ kd < 256 ∧ bt < 256 ∧ at' < 65536 ∧ Loose W (.slice ma mn mc) ms W.heap.size ∧ ∀ x ∈ ms, x < 256 := by
  obtain ⟨v0, v1, v2, v3, y0, y1, y2, y3, n, rfl, _, _, t0, t1, t2, t3⟩ := open_agg4 Tryd.underlying66 (by kernel_rfl) (by kernel_rfl) o h
  obtain ⟨i0, e0, _, w0⟩ := DataW.trod_int Tryd.underlying5 t0
  obtain ⟨i1, e1, _, w1⟩ := DataW.trod_int Tryd.underlying5 t1
  obtain ⟨i2, e2, _, w2⟩ := DataW.trod_int Tryd.underlying64 t2
  injection e0 with e0; injection e1 with e1; injection e2 with e2
  subst e0 e1 e2
  obtain ⟨kd, rfl, h0⟩ := u8_nat _ w0
  obtain ⟨bt, rfl, h1⟩ := u8_nat _ w1
  obtain ⟨at', rfl, h2⟩ := u16_nat _ w2
  obtain ⟨ms, hl, hb⟩ := loose_of t3
  have hv : ∃ a l c, v3 = .slice a l c := by
    obtain ⟨a, c, e⟩ := hl.form
    exact ⟨_, _, _, e⟩
  obtain ⟨a, l, c, rfl⟩ := hv
  exact ⟨kd, bt, at', a, l, c, ms, rfl, h0, h1, h2, hl, hb⟩
end Go.Proofs.YtaoidabelclipaaDoor
