/-
  A range over a function whose body appends, or breaks: what follows is walked once. bits.Set.All in it: the members as far as the consumer asks.
-/
import Derived.Test.YtkgpnnegjhnjdaaDoorBList
import Derived.Test.YtkgpnnegjhnjdaaDoorMembers
namespace Go.Proofs.YtkgpnnegjhnjdaaDoor
open Go.RowKit Go.Shelf
attribute [local go_sem] Oper.semAt_some

theorem range_break {α : Type} {P : Program} {g : Operand} {ps : Array Tmp} {assign body : Code} {Q : Exit → Act → World → Prop} {a : Act} {w : World}
    {gf : Nat} {lb : Array Value} (hg : a.eval g = .func (.func gf) #[] lb) (eg : ∀ args w, (callFunc gf args).run P w = .ok (.enter gf args) w)
    {encs : α → Array Value} {Kp : World → World → Prop} {S Sp : List α → Prop} {N : Nat} {w0 : World} (hseq : SeqStopsK Fence.wide 2 P gf lb encs Kp S Sp N w0)
    (hKt : ∀ {A B C : World}, Kp A B → Kp B C → Kp A C) (hKb : ∀ (W : World) (l : Nat) (o o' : Obj), w.heap.size ≤ l → W.heap[l]? = some o → o.isCells = false → o.isWalk = false → Kp W (W.putObj l o')) (hb0 : Below w0.heap.size w0 w) (hps : ∀ x, (encs x).size = ps.size)
    (I : List α → World → Prop) (Ix : Code → List α → World → Prop) (hI : OwnFrom w.heap.size I) (hIx : ∀ c, OwnFrom w.heap.size (Ix c)) (h0 : I [] w) (a₁ : α → Act) (id : Nat) (Fact : World → Prop)
    (hd : ∀ xs W, S xs → I xs W → Fact W) (hs : ∀ c pre W, Sp pre → Ix c pre W → c = .exit id ∧ Fact W) (hx : ∀ a' W, Q .normal a' W → Q (.exit id) a' W)
    (hassign : ∀ (l : Nat) (x : α) (W : World) (K : Act → World → Prop), K (a₁ x) W →
      assign.wpIn (Fence.wide.inRound l) 1 P (Exit.then K (fun _ _ _ => False)) { tmps := (ps.zip (encs x)).foldl (fun t (p, v) => t.setIfInBounds p v) a.tmps, defers := [] } W)
    (hbody : ∀ (l : Nat) (pre : List α) (x : α) (W : World), I pre W → pre.length < N → body.wpIn (Fence.wide.inRound l) 1 P (ownPostG w.heap.size Kp I Ix (pre ++ [x]) W) (a₁ x) W)
    (hcont : ∀ (D : Nat) (W : World), w.heap.size ≤ D → Fact W → W.heap[D]? = some (.deferred (some [])) → Q .normal { a with defers := { target := .collected D, args := #[] } :: a.defers } W) :
    (Code.rangeFunc g ps assign body).wp P Q a w := by
  refine (wpIn_wide (n := 3)).1 ?_
  refine wpIn_rangeFunc_ownG rfl (by omega) hg trivial eg hseq hKt hKb hb0 hps I Ix hI hIx h0 a₁ hassign hbody (fun D xs W h1 h2 h3 h4 => hcont D W h1 (hd xs W h2 h3) h4) (fun D c pre W h1 h2 h3 h4 => ?_)
  obtain ⟨rfl, hf⟩ := hs c pre W h2 h3
  have hq := hx _ _ (hcont D W h1 hf h4)
  gi_wp2
  exact hq
end Go.Proofs.YtkgpnnegjhnjdaaDoor
