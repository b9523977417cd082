import Derived.WalkKit
import Derived.Deep.AppendLies
import Derived.Lib.Hide
import Derived.Deep.QuietTactic
/-
  Plain words for the wire proofs of this seat: lists of bytes as cells, what a value reads as, what a writer and a reader hold, and how worlds are kept. No program is named here.
-/
namespace Go.Proofs.YtjglnpijngdpkaaGreatDoor
open Go.RowKit

/-- The cells of a list of bytes. -/
def bv (xs : List Nat) : List Value := xs.map fun n : Nat => Value.int .u8 (n : Int)

theorem bv_length (xs : List Nat) : (bv xs).length = xs.length := by simp [bv]
theorem bv_append (xs ys : List Nat) : bv (xs ++ ys) = bv xs ++ bv ys := by simp [bv]
theorem bv_ints (xs : List Nat) : (xs.map fun n : Nat => (n : Int)).map (Value.int .u8) = bv xs := by simp [bv]
theorem bv_one (x : Nat) : bv [x] = [Value.int .u8 (x : Int)] := rfl
theorem bv_oneCell (xs : List Nat) : ∀ u ∈ bv xs, u.oneCell' = true := by
  intro u hu
  simp only [bv, List.mem_map] at hu
  obtain ⟨n, _, rfl⟩ := hu
  rfl
theorem bv_getElem? (xs : List Nat) (i : Nat) : (bv xs)[i]? = (xs[i]?).map fun n : Nat => Value.int .u8 (n : Int) := by simp [bv]

/-- The block of a value, as a set. -/
def blk (v : Value) (k : Nat) : Prop := v.ownBlock = some k

/-- But for the blocks in S, w' holds what w held, and maybe more blocks. -/
structure Kept (S : Nat → Prop) (w w' : World) : Prop where
  os : w'.os = w.os
  tape : w'.tape = w.tape
  output : w'.output = w.output
  size : w.heap.size ≤ w'.heap.size
  block : ∀ k, k < w.heap.size → ¬ S k → w'.heap[k]? = w.heap[k]?

theorem Kept.refl (S : Nat → Prop) (w : World) : Kept S w w := ⟨rfl, rfl, rfl, Nat.le_refl _, fun _ _ _ => rfl⟩

theorem Kept.trans {S S' T : Nat → Prop} {a b c : World} (h : Kept S a b) (k : Kept S' b c) (h1 : ∀ i, i < a.heap.size → S i → T i) (h2 : ∀ i, i < a.heap.size → S' i → T i) : Kept T a c :=
  ⟨k.os.trans h.os, k.tape.trans h.tape, k.output.trans h.output, Nat.le_trans h.size k.size,
    fun i hi hn => (k.block i (Nat.lt_of_lt_of_le hi h.size) fun hs => hn (h2 i hi hs)).trans (h.block i hi fun hs => hn (h1 i hi hs))⟩

theorem Kept.mono {S T : Nat → Prop} {a b : World} (h : Kept S a b) (h1 : ∀ i, i < a.heap.size → S i → T i) : Kept T a b :=
  ⟨h.os, h.tape, h.output, h.size, fun i hi hn => h.block i hi fun hs => hn (h1 i hi hs)⟩

theorem Kept.below {S : Nat → Prop} {a b : World} (h : Kept S a b) {B : Nat} (hB : B ≤ a.heap.size) (hS : ∀ i, S i → B ≤ i) : Below B a b :=
  ⟨h.os, h.tape, h.output, h.size, fun k hk => h.block k (by omega) fun hs => by have := hS k hs; omega⟩

theorem Kept.ofBelow {a b : World} (S : Nat → Prop) (h : Below a.heap.size a b) : Kept S a b :=
  ⟨h.os, h.tape, h.output, h.size, fun k hk _ => h.block k hk⟩

theorem Kept.ofGrown {a b : World} {row : Option Nat} {S : Nat → Prop} (h : a.grownBy b row) (hS : ∀ k, row = some k → S k) : Kept S a b :=
  ⟨h.os, h.tape, h.output, h.size, fun k hk hn => h.block k hk fun e => hn (hS k e.symm)⟩

theorem Kept.alloc (S : Nat → Prop) (w : World) (o : Obj) : Kept S w (w.alloc o) :=
  ⟨rfl, rfl, rfl, by simp, fun k hk _ => Below.heap_alloc _ _ _ hk⟩

theorem Kept.drew {S : Nat → Prop} {a b : World} (h : Kept S a b) : Kept S a b.drew := ⟨h.os, h.tape, h.output, h.size, h.block⟩
theorem Kept.drewN {S : Nat → Prop} {a b : World} (h : Kept S a b) (n : Nat) : Kept S a (b.drewN n) := ⟨h.os, h.tape, h.output, h.size, h.block⟩

theorem Kept.setCell (S : Nat → Prop) (w : World) (a : Addr) (u : Value) (hS : S a.block) : Kept S w (w.setCell a u) :=
  ⟨rfl, rfl, rfl, by simp [World.setCell], fun k _ hn => Below.heap_setCell _ _ _ _ fun e => hn (e ▸ hS)⟩

theorem Kept.cell {S : Nat → Prop} {a b : World} (h : Kept S a b) {p : Addr} (hp : p.block < a.heap.size) (hn : ¬ S p.block) : b.cell? p = a.cell? p :=
  World.cell?_of_block (w := a) (h.block p.block hp hn)
theorem Kept.frozen {S : Nat → Prop} {a b : World} (h : Kept S a b) {p : Addr} (hp : p.block < a.heap.size) (hn : ¬ S p.block) : b.frozen? p = a.frozen? p :=
  World.frozen?_of_block (w := a) (h.block p.block hp hn)

/-- An owned row that is not in S is owned behind. -/
theorem Kept.owns {S : Nat → Prop} {a b : World} (h : Kept S a b) {base : Nat} {e : TypeId} {size : Nat} {v : Value} {n : Nat} {xs : List Value} (ho : a.ownsRow base e size v n xs) (hn : ∀ k, v.ownBlock = some k → ¬ S k) : b.ownsRow base e size v n xs := by
  refine ⟨ho.1, ?_⟩
  rcases ho.2 with h2 | ⟨g, cap, cur, rfl, hg, hh, r⟩
  · exact Or.inl h2
  · exact Or.inr ⟨g, cap, cur, rfl, hg, by rw [h.block g (Array.getElem?_eq_some_iff.1 hh).1 (hn g rfl)]; exact hh, r⟩

/-- The value reads as these bytes: a nil slice and no byte, or a slice whose cells hold them. -/
def Reads (w : World) (v : Value) (xs : List Nat) : Prop :=
  (v = .slice none 0 0 ∧ xs = []) ∨
  ∃ g off cap, v = .slice (some ⟨g, off, none⟩) xs.length cap ∧ xs.length ≤ cap ∧ cap ≤ maxLen ∧ g < w.heap.size ∧
    ∀ i, i < xs.length → w.cell? ⟨g, off + i, none⟩ = some (.int .u8 (xs.getD i 0 : Nat))

theorem Reads.kept {S : Nat → Prop} {a b : World} {v : Value} {xs : List Nat} (h : Reads a v xs) (hk : Kept S a b) (hn : ∀ k, v.ownBlock = some k → ¬ S k) : Reads b v xs := by
  rcases h with h | ⟨g, off, cap, rfl, h1, h2, h3, h4⟩
  · exact Or.inl h
  · exact Or.inr ⟨g, off, cap, rfl, h1, h2, Nat.lt_of_lt_of_le h3 hk.size, fun i hi => (hk.cell h3 (hn g rfl)).trans (h4 i hi)⟩

theorem Reads.lt {w : World} {v : Value} {xs : List Nat} (h : Reads w v xs) : ∀ k, v.ownBlock = some k → k < w.heap.size := by
  intro k hk
  rcases h with ⟨rfl, _⟩ | ⟨g, off, cap, rfl, _, _, h3, _⟩
  · simp [Value.ownBlock] at hk
  · simp [Value.ownBlock] at hk; subst hk; exact h3

/-- What is owned reads as its bytes. -/
theorem Reads.ofOwns {w : World} {base : Nat} {e : TypeId} {v : Value} {xs : List Nat} {n : Nat} (ho : w.ownsRow base e 1 v n (bv xs)) : Reads w v xs := by
  have hl : xs.length = n := by have := ho.1; simpa [bv_length] using this
  subst hl
  have hcell := fun g (hg : v.ownBlock = some g) => ho.cells hg
  rcases ho.2 with ⟨rfl, h0⟩ | ⟨g, cap, cur, rfl, hb, hg, h1, h2, h3, h4⟩
  · exact Or.inl ⟨rfl, List.eq_nil_of_length_eq_zero h0⟩
  · refine Or.inr ⟨g, 0, cap, rfl, h1, h2, (Array.getElem?_eq_some_iff.1 hg).1, fun i hi => ?_⟩
    have := hcell g rfl i (.int .u8 (xs.getD i 0 : Nat)) (by rw [bv_getElem?]; simp [List.getD, hi])
    have hadd : (⟨g, 0, none⟩ : Addr).add i = ⟨g, 0 + i, none⟩ := by unfold Addr.add; split <;> simp_all
    rwa [hadd] at this

/-- What a writer at block wb holds: the slice v, which owns its bytes; v lies elsewhere than the writer itself. -/
structure Wr (w : World) (wb : Nat) (v : Value) (B : Nat) (xs : List Nat) : Prop where
  cell : w.cell? ⟨wb, 0, none⟩ = some v
  free : w.frozen? ⟨wb, 0, none⟩ = false
  own : w.ownsRow B 5 1 v xs.length (bv xs)
  apart : v.ownBlock ≠ some wb
  base : B ≤ wb

/-- What a step of a writer leaves alone: all but the writer's cell and its row; a new row is a new block. -/
structure WStep (w w' : World) (wb : Nat) (v v' : Value) : Prop where
  kept : Kept (fun k => k = wb ∨ blk v k) w w'
  row : v'.ownBlock = v.ownBlock ∨ ∀ k, v'.ownBlock = some k → w.heap.size ≤ k

theorem WStep.refl (w : World) (wb : Nat) (v : Value) : WStep w w wb v v := ⟨Kept.refl _ _, Or.inl rfl⟩

theorem WStep.trans {a b c : World} {wb : Nat} {u v x : Value} (h : WStep a b wb u v) (k : WStep b c wb v x) : WStep a c wb u x := by
  refine ⟨h.kept.trans k.kept (fun i _ h => h) (fun i hi hs => ?_), ?_⟩
  · rcases hs with hs | hs
    · exact Or.inl hs
    · rcases h.row with hr | hr
      · exact Or.inr (by unfold blk at hs ⊢; rw [← hr]; exact hs)
      · have := hr i hs; omega
  · rcases k.row with kr | kr
    · rw [kr]; exact h.row
    · exact Or.inr fun i hi => Nat.le_trans h.kept.size (kr i hi)

theorem WStep.drew {a b : World} {wb : Nat} {u v : Value} (h : WStep a b wb u v) : WStep a b.drew wb u v := ⟨h.kept.drew, h.row⟩

theorem Wr.lt {w : World} {wb : Nat} {v : Value} {B : Nat} {xs : List Nat} (h : Wr w wb v B xs) : wb < w.heap.size := World.block_lt_of_cell? w _ h.cell
theorem Wr.drew {w : World} {wb : Nat} {v : Value} {B : Nat} {xs : List Nat} (h : Wr w wb v B xs) : Wr w.drew wb v B xs := ⟨h.cell, h.free, h.own, h.apart, h.base⟩

/-- Where nothing of the writer's is touched, it holds what it held. -/
theorem Wr.kept {S : Nat → Prop} {a b : World} {wb : Nat} {v : Value} {B : Nat} {xs : List Nat} (h : Wr a wb v B xs) (hk : Kept S a b) (h1 : ¬ S wb) (h2 : ∀ k, v.ownBlock = some k → ¬ S k) : Wr b wb v B xs :=
  ⟨(hk.cell (p := ⟨wb, 0, none⟩) h.lt h1).trans h.cell, (hk.frozen (p := ⟨wb, 0, none⟩) h.lt h1).trans h.free, hk.owns h.own h2, h.apart, h.base⟩

/-- Behind an append to the writer's row and the store into its cell. 'w0' is the world in which the append began: w and new blocks. -/
theorem wr_push {w w0 w1 : World} {wb : Nat} {v v' : Value} {B : Nat} {xs ys : List Nat} (h : Wr w wb v B xs) (h0 : Kept (fun _ => False) w w0)
    (hown : w1.ownsRow B 5 1 v' (xs.length + ys.length) (bv xs ++ bv ys)) (hgrow : w0.grownBy w1 v.ownBlock) (hat : ∀ k, v'.ownBlock = some k → v.ownBlock = some k ∨ w.heap.size ≤ k) (hn : v.ownBlock = v'.ownBlock ∨ ∀ k, v'.ownBlock = some k → w.heap.size ≤ k) :
    Wr (w1.setCell ⟨wb, 0, none⟩ v') wb v' B (xs ++ ys) ∧ WStep w (w1.setCell ⟨wb, 0, none⟩ v') wb v v' := by
  have hlt := h.lt
  have hap : v'.ownBlock ≠ some wb := by
    intro e
    rcases hat wb e with h2 | h2
    · exact h.apart h2
    · omega
  have k1 : Kept (blk v) w w1 := h0.trans (Kept.ofGrown (S := blk v) hgrow fun k e => e) (fun _ _ h => h.elim) (fun _ _ h => h)
  have c1 : w1.cell? ⟨wb, 0, none⟩ = some v := (k1.cell (p := ⟨wb, 0, none⟩) hlt h.apart).trans h.cell
  have f1 : w1.frozen? ⟨wb, 0, none⟩ = false := (k1.frozen (p := ⟨wb, 0, none⟩) hlt h.apart).trans h.free
  refine ⟨⟨?_, ?_, ?_, hap, h.base⟩, ⟨?_, ?_⟩⟩
  · go_simp
  · go_simp
  · have := (Kept.setCell (fun k => k = wb) w1 ⟨wb, 0, none⟩ v' rfl).owns hown fun k hk e => by
      subst e; exact hap hk
    rw [List.length_append, bv_append]; exact this
  · exact k1.trans (Kept.setCell (fun k => k = wb) w1 ⟨wb, 0, none⟩ v' rfl) (fun _ _ h => Or.inr h) (fun _ _ h => Or.inl h)
  · rcases hn with hn | hn
    · exact Or.inl hn.symm
    · exact Or.inr hn

/-- The same where the new row's address is told. -/
theorem wr_push1 {w w0 w1 : World} {wb : Nat} {v : Value} {B : Nat} {xs ys : List Nat} {gg cap m N : Nat} (h : Wr w wb v B xs) (h0 : Kept (fun _ => False) w w0) (hN : xs.length = N) (hm : ys.length = m)
    (hown : w1.ownsRow B 5 1 (.slice (some ⟨gg, 0, none⟩) (N + m) cap) (N + m) (bv xs ++ bv ys)) (hgrow : w0.grownBy w1 v.ownBlock) (hat : v.ownBlock = some gg ∨ w.heap.size ≤ gg) :
    Wr (w1.setCell ⟨wb, 0, none⟩ (.slice (some ⟨gg, 0, none⟩) (N + m) cap)) wb (.slice (some ⟨gg, 0, none⟩) (N + m) cap) B (xs ++ ys) ∧
    WStep w (w1.setCell ⟨wb, 0, none⟩ (.slice (some ⟨gg, 0, none⟩) (N + m) cap)) wb v (.slice (some ⟨gg, 0, none⟩) (N + m) cap) := by
  subst hm hN
  refine wr_push h h0 hown hgrow (fun k hk => ?_) ?_
  · simp [Value.ownBlock] at hk; subst hk; exact hat
  · rcases hat with hat | hat
    · exact Or.inl (by rw [hat]; rfl)
    · exact Or.inr fun k hk => by simp [Value.ownBlock] at hk; subst hk; exact hat

/-- What a reader at block rb holds: the slice v, which reads as the bytes xs, and the error. -/
structure Rd (w : World) (rb : Nat) (v : Value) (xs : List Nat) (err : Int) : Prop where
  cell0 : w.cell? ⟨rb, 0, none⟩ = some v
  cell1 : w.cell? ⟨rb, 1, none⟩ = some (.int .i64 err)
  free0 : w.frozen? ⟨rb, 0, none⟩ = false
  free1 : w.frozen? ⟨rb, 1, none⟩ = false
  reads : Reads w v xs
  apart : v.ownBlock ≠ some rb

theorem Rd.lt {w : World} {rb : Nat} {v : Value} {xs : List Nat} {err : Int} (h : Rd w rb v xs err) : rb < w.heap.size := World.block_lt_of_cell? w _ h.cell0

theorem Rd.kept {S : Nat → Prop} {a b : World} {rb : Nat} {v : Value} {xs : List Nat} {err : Int} (h : Rd a rb v xs err) (hk : Kept S a b) (h1 : ¬ S rb) (h2 : ∀ k, v.ownBlock = some k → ¬ S k) : Rd b rb v xs err :=
  ⟨(hk.cell (p := ⟨rb, 0, none⟩) h.lt h1).trans h.cell0, (hk.cell (p := ⟨rb, 1, none⟩) h.lt h1).trans h.cell1, (hk.frozen (p := ⟨rb, 0, none⟩) h.lt h1).trans h.free0,
    (hk.frozen (p := ⟨rb, 1, none⟩) h.lt h1).trans h.free1, h.reads.kept hk h2, h.apart⟩

/-- The error is set. -/
theorem Rd.setErr {w : World} {rb : Nat} {v : Value} {xs : List Nat} {err : Int} (h : Rd w rb v xs err) (e : Int) : Rd (w.setCell ⟨rb, 1, none⟩ (.int .i64 e)) rb v xs e := by
  have hr := h.reads.kept (Kept.setCell (fun k => k = rb) w ⟨rb, 1, none⟩ (.int .i64 e) rfl) fun k hk hs => h.apart (hs ▸ hk)
  have h0 := h.cell0; have h1 := h.cell1; have f0 := h.free0; have f1 := h.free1
  exact ⟨by go_simp, by go_simp, by go_simp, by go_simp, hr, h.apart⟩

/-- The bytes that are left are set. -/
theorem Rd.setLeft {w : World} {rb : Nat} {v v' : Value} {xs xs' : List Nat} {err : Int} (h : Rd w rb v xs err) (hr : Reads w v' xs') (ha : v'.ownBlock ≠ some rb) : Rd (w.setCell ⟨rb, 0, none⟩ v') rb v' xs' err := by
  have hr' := hr.kept (Kept.setCell (fun k => k = rb) w ⟨rb, 0, none⟩ v' rfl) fun k hk hs => ha (hs ▸ hk)
  have h0 := h.cell0; have h1 := h.cell1; have f0 := h.free0; have f1 := h.free1
  exact ⟨by go_simp, by go_simp, by go_simp, by go_simp, hr', ha⟩

theorem Rd.drew {w : World} {rb : Nat} {v : Value} {xs : List Nat} {err : Int} (h : Rd w rb v xs err) : Rd w.drew rb v xs err := ⟨h.cell0, h.cell1, h.free0, h.free1, h.reads, h.apart⟩

/-- The front of a slice, and what is behind it. -/
theorem Reads.take {w : World} {g off cap : Nat} {xs : List Nat} (n : Nat) (h : Reads w (.slice (some ⟨g, off, none⟩) xs.length cap) xs) (hn : n ≤ xs.length) : Reads w (.slice (some ⟨g, off, none⟩) n cap) (xs.take n) := by
  rcases h with ⟨h, _⟩ | ⟨g', off', cap', he, h1, h2, h3, h4⟩
  · cases h
  · cases he
    have hl : (xs.take n).length = n := by simp; omega
    refine Or.inr ⟨g, off, cap, by rw [hl], by omega, h2, h3, fun i hi => ?_⟩
    rw [h4 i (by omega)]
    simp [show i < n by omega]

theorem Reads.drop {w : World} {g off cap : Nat} {xs : List Nat} (n : Nat) (h : Reads w (.slice (some ⟨g, off, none⟩) xs.length cap) xs) (hn : n ≤ xs.length) : Reads w (.slice (some ⟨g, off + n, none⟩) (xs.length - n) (cap - n)) (xs.drop n) := by
  rcases h with ⟨h, _⟩ | ⟨g', off', cap', he, h1, h2, h3, h4⟩
  · cases h
  · cases he
    have hl : (xs.drop n).length = xs.length - n := by simp
    refine Or.inr ⟨g, off + n, cap - n, by rw [hl], by omega, by omega, h3, fun i hi => ?_⟩
    rw [Nat.add_assoc, h4 (n + i) (by omega)]
    simp

/-- A row that was laid of known bytes is owned. -/
theorem owns_lit (w : World) (B : Nat) (cs : Array Value) (xs : List Nat) (n : Nat) (hn : n = xs.length) (hcs : cs.toList = bv xs) (hB : B ≤ w.heap.size) (hm : xs.length ≤ maxLen) :
    (w.alloc (.cells cs 5)).ownsRow B 5 1 (.slice (some ⟨w.heap.size, 0, none⟩) n n) xs.length (bv xs) := by
  subst hn
  have hl : cs.size = xs.length := by rw [← Array.length_toList, hcs, bv_length]
  refine ⟨by simp [bv_length], Or.inr ⟨w.heap.size, xs.length, cs, rfl, hB, heap_alloc_new w _, Nat.le_refl _, hm, by simpa using hl, ?_⟩⟩
  rw [hcs, Nat.mul_one, ← bv_length xs, List.take_length]

/-- A new block holds something else. -/
theorem Kept.relay (w : World) (o o' : Obj) : Kept (fun k => k = w.heap.size) (w.alloc o) (w.alloc o') :=
  ⟨rfl, rfl, rfl, by simp, fun k hk hn => by
    have hlt : k < w.heap.size := by simp at hk; omega
    rw [Below.heap_alloc _ _ _ hlt, Below.heap_alloc _ _ _ hlt]⟩

theorem Kept.drews {S : Nat → Prop} {a b : World} (h : Kept S a b) : Kept S a.drew b.drew := ⟨h.os, h.tape, h.output, h.size, h.block⟩

/-- A boxed value of two cells, behind calls that keep what was there. -/
theorem box_cells {S : Nat → Prop} {w w1 : World} {x y : Value} {T : TypeId} (hk : Kept S (w.alloc (.cells #[x, y] T)) w1) (hS : ¬ S w.heap.size) :
    w1.cell? ⟨w.heap.size, 0, none⟩ = some x ∧ w1.cell? ⟨w.heap.size, 1, none⟩ = some y ∧ w.heap.size < w1.heap.size :=
  ⟨(hk.cell (p := ⟨w.heap.size, 0, none⟩) (by simp) hS).trans (by go_simp), (hk.cell (p := ⟨w.heap.size, 1, none⟩) (by simp) hS).trans (by go_simp), Nat.lt_of_lt_of_le (by simp) hk.size⟩

theorem Kept.then {a b c : World} (h : Kept (fun _ => False) a b) (k : Kept (fun _ => False) b c) : Kept (fun _ => False) a c := h.trans k (fun _ _ h => h) (fun _ _ h => h)

end Go.Proofs.YtjglnpijngdpkaaGreatDoor
