import Derived.Test.YtjglnpijngdpkaaGreatDoorCore
import Derived.Deep.AppendLies
import Derived.Laws.OwnMore
import Derived.Laws.AppendOwnNone
import Derived.Maps.AppendAt
import Derived.Lib.Hide
import Derived.Laws.IdiomCopy
import Derived.Deep.Upon
import Derived.Deep.MidRow
/-
  Rows of elements of several cells, whatever the elements are: what a slice reads as, rows of one's own, append, cells written anew.
-/
namespace Go.Proofs.YtjglnpijngdpkaaGreatDoor
open Go.RowKit
set_option linter.unusedSimpArgs false
set_option linter.unusedVariables false

/-- How an element lies in memory: its cells. -/
structure REnc (α : Type) where
  enc : α → List Value
  z : Nat
  d : α
  len : ∀ x, (enc x).length = z
  one : ∀ x, ∀ v ∈ enc x, v.oneCell' = true
  pos : 0 < z
variable {α : Type} {E : REnc α}
def flatG (E : REnc α) (l : List α) : List Value := l.flatMap E.enc
theorem flatG_append (a b : List α) : flatG E (a ++ b) = flatG E a ++ flatG E b := by simp [flatG]
theorem flatG_length (l : List α) : (flatG E l).length = l.length * E.z := by
  induction l with
  | nil => simp [flatG]
  | cons x t ih =>
    have : flatG E (x :: t) = E.enc x ++ flatG E t := rfl
    rw [this, List.length_append, ih, E.len, List.length_cons, Nat.succ_mul]; omega
theorem flatG_one1 (x : α) : flatG E [x] = E.enc x := by simp [flatG]
theorem flatG_at (l : List α) : ∀ i, i < l.length → ∀ j, j < E.z → (flatG E l)[i * E.z + j]? = (E.enc (l.getD i E.d))[j]? := by
  induction l with
  | nil => intro i hi; simp at hi
  | cons x t ih =>
    intro i hi j hj
    have e : flatG E (x :: t) = E.enc x ++ flatG E t := rfl
    rw [e]
    cases i with
    | zero => rw [Nat.zero_mul, Nat.zero_add, List.getElem?_append_left (by rw [E.len]; exact hj)]; rfl
    | succ k =>
      rw [List.getElem?_append_right (by rw [E.len, Nat.succ_mul]; omega), E.len, show (k + 1) * E.z + j - E.z = k * E.z + j by rw [Nat.succ_mul]; omega]
      exact ih k (by simpa using hi) j hj
theorem flatG_one (l : List α) : ∀ u ∈ flatG E l, u.oneCell' = true := fun u hu => by
  simp only [flatG, List.mem_flatMap] at hu
  obtain ⟨x, _, h⟩ := hu
  exact E.one x u h
theorem flatG_cut (l : List α) (k : Nat) (hk : k ≤ l.length) : flatG E (l.take k) = (flatG E l).take (k * E.z) ∧ flatG E (l.drop k) = (flatG E l).drop (k * E.z) := by
  have h : flatG E l = flatG E (l.take k) ++ flatG E (l.drop k) := by rw [← flatG_append, List.take_append_drop]
  have hl : (flatG E (l.take k)).length = k * E.z := by rw [flatG_length, List.length_take, Nat.min_eq_left hk]
  rw [h, List.take_left' hl, List.drop_left' hl]; exact ⟨rfl, rfl⟩

/-- An element in memory. -/
def AtG (E : REnc α) (w : World) (g o : Nat) (x : α) : Prop := ∀ j v, (E.enc x)[j]? = some v → w.cell? ⟨g, o + j, none⟩ = some v
theorem AtG.kept {S : Nat → Prop} {a b : World} {g o : Nat} {x : α} (h : AtG E a g o x) (hk : Kept S a b) (hS : ¬ S g) : AtG E b g o x := fun j v hv =>
  (hk.cell (World.block_lt_of_cell? a _ (h j v hv)) hS).trans (h j v hv)
/-- A value that reads as a row of elements. -/
def RowG (E : REnc α) (w : World) (v : Value) (l : List α) : Prop :=
  (v = .slice none 0 0 ∧ l = []) ∨
  ∃ g off cap, v = .slice (some ⟨g, off, none⟩) l.length cap ∧ l.length ≤ cap ∧ cap ≤ maxLen ∧ g < w.heap.size ∧ ∀ i, i < l.length → AtG E w g (off + i * E.z) (l.getD i E.d)
theorem RowG.kept {S : Nat → Prop} {a b : World} {v : Value} {l : List α} (h : RowG E a v l) (hk : Kept S a b) (hn : ∀ k, v.ownBlock = some k → ¬ S k) : RowG E b v l := by
  rcases h with h | ⟨g, off, cap, rfl, h1, h2, h3, h4⟩
  · exact Or.inl h
  · exact Or.inr ⟨g, off, cap, rfl, h1, h2, Nat.lt_of_lt_of_le h3 hk.size, fun i hi => (h4 i hi).kept hk (hn g rfl)⟩
theorem RowG.on {a b : World} {v : Value} {l : List α} (h : RowG E a v l) (hk : Kept (fun _ => False) a b) : RowG E b v l := h.kept hk (fun _ _ h => h)
theorem RowG.form {w : World} {v : Value} {l : List α} (h : RowG E w v l) : ∃ a c, v = .slice a l.length c ∧ l.length ≤ c ∧ c ≤ maxLen := by
  rcases h with ⟨rfl, rfl⟩ | ⟨g, off, cap, rfl, h1, h2, _⟩
  · exact ⟨_, _, rfl, Nat.le_refl _, Nat.zero_le _⟩
  · exact ⟨_, _, rfl, h1, h2⟩
theorem RowG.at {w : World} {a : Option Addr} {n c k : Nat} {l : List α} (h : RowG E w (.slice a n c) l) (hk : k < l.length) :
    ∃ g off, a = some ⟨g, off, none⟩ ∧ g < w.heap.size ∧ AtG E w g (off + k * E.z) (l.getD k E.d) := by
  rcases h with ⟨_, rfl⟩ | ⟨g, off, cap, h, _, _, h3, h4⟩
  · simp at hk
  · cases h
    exact ⟨g, off, rfl, h3, h4 k hk⟩
theorem RowG.flat {w : World} {g off n c : Nat} {l : List α} (h : RowG E w (.slice (some ⟨g, off, none⟩) n c) l) : ∀ j u, (flatG E l)[j]? = some u → w.cell? ⟨g, off + j, none⟩ = some u := fun j u hu => by
  have hj : j < l.length * E.z := by
    have := (List.getElem?_eq_some_iff.1 hu).1
    rwa [flatG_length] at this
  rcases h with ⟨h, _⟩ | ⟨g', off', cap, h, _, _, _, h4⟩
  · cases h
  · cases h
    have hi : j / E.z < l.length := Nat.div_lt_of_lt_mul (by rw [Nat.mul_comm]; exact hj)
    have hr : j % E.z < E.z := Nat.mod_lt _ E.pos
    have he : j = j / E.z * E.z + j % E.z := by rw [Nat.mul_comm]; exact (Nat.div_add_mod j E.z).symm
    rw [he, flatG_at l _ hi _ hr] at hu
    rw [he, ← Nat.add_assoc]
    exact h4 _ hi _ _ hu

/-- A row of one's own. -/
def OwnG (E : REnc α) (T : TypeId) (B : Nat) (w : World) (v : Value) (l : List α) : Prop := w.ownsRow B T E.z v l.length (flatG E l)
theorem OwnG.nil (T : TypeId) (B : Nat) (w : World) : OwnG E T B w (.slice none 0 0) [] := World.ownsRow_nil _ _ _ _
theorem OwnG.kept {S : Nat → Prop} {T : TypeId} {B : Nat} {a b : World} {v : Value} {l : List α} (h : OwnG E T B a v l) (hk : Kept S a b) (hn : ∀ k, v.ownBlock = some k → ¬ S k) : OwnG E T B b v l := hk.owns h hn
theorem OwnG.on {T : TypeId} {B : Nat} {a b : World} {v : Value} {l : List α} (h : OwnG E T B a v l) (hk : Kept (fun _ => False) a b) : OwnG E T B b v l := h.kept hk (fun _ _ h => h)
theorem OwnG.alloc {T : TypeId} {B : Nat} {w : World} {v : Value} {l : List α} (h : OwnG E T B w v l) (o : Obj) : OwnG E T B (w.alloc o) v l := World.ownsRow.alloc h o
theorem OwnG.low {T : TypeId} {B B' : Nat} {w : World} {v : Value} {l : List α} (h : OwnG E T B w v l) (hB : B' ≤ B) : OwnG E T B' w v l := by
  refine ⟨h.1, ?_⟩
  rcases h.2 with e | ⟨g, cap, cur, e, hb, r⟩
  · exact Or.inl e
  · exact Or.inr ⟨g, cap, cur, e, Nat.le_trans hB hb, r⟩
theorem OwnG.lt {T : TypeId} {B : Nat} {w : World} {v : Value} {l : List α} (h : OwnG E T B w v l) : ∀ k, v.ownBlock = some k → B ≤ k ∧ k < w.heap.size := fun k hk => World.ownsRow.lt h k hk
theorem OwnG.row {T : TypeId} {B : Nat} {w : World} {v : Value} {l : List α} (h : OwnG E T B w v l) : RowG E w v l := by
  have h0 := h
  rcases h.2 with ⟨rfl, h2⟩ | ⟨g, cap, cur, rfl, hb, hg, h1, h2, _⟩
  · exact Or.inl ⟨rfl, List.eq_nil_of_length_eq_zero h2⟩
  · have hlt : g < w.heap.size := (h.lt g rfl).2
    refine Or.inr ⟨g, 0, cap, rfl, h1, h2, hlt, fun i hi j u hu => ?_⟩
    have hj : j < E.z := by rw [← E.len (l.getD i E.d)]; exact (List.getElem?_eq_some_iff.1 hu).1
    unfold OwnG at h0
    rw [Nat.zero_add]
    have hlt2 : i * E.z + j < l.length * E.z := by
      have : i * E.z + E.z ≤ l.length * E.z := by rw [← Nat.succ_mul]; exact Nat.mul_le_mul_right _ hi
      omega
    exact (h0.cellAt (i * E.z + j) hlt2).trans ((flatG_at l i hi j hj).trans hu)
theorem OwnG.form {T : TypeId} {B : Nat} {w : World} {v : Value} {l : List α} (h : OwnG E T B w v l) : ∃ a c, v = .slice a l.length c ∧ l.length ≤ c ∧ c ≤ maxLen := h.row.form
theorem OwnG.new0 (w : World) (T : TypeId) (B : Nat) (hB : B ≤ w.heap.size) : OwnG E T B (w.alloc (.cells #[] T)) (.slice (some ⟨w.heap.size, 0, none⟩) 0 0) [] := by
  refine ⟨by simp [flatG], Or.inr ⟨w.heap.size, 0, #[], rfl, hB, heap_alloc_new w _, Nat.le_refl _, by unfold maxLen; omega, by simp, by simp [flatG]⟩⟩
/-- A new block that holds elements. -/
theorem RowG.new (w : World) (cs : Array Value) (T : TypeId) (n : Nat) (l : List α) (hn : n = l.length) (hcs : cs.toList = flatG E l) (hm : n ≤ maxLen) : RowG E (w.alloc (.cells cs T)) (.slice (some ⟨w.heap.size, 0, none⟩) n n) l := by
  subst hn
  refine Or.inr ⟨w.heap.size, 0, l.length, rfl, Nat.le_refl _, hm, by simp, fun i hi j u hu => ?_⟩
  have hj : j < E.z := by rw [← E.len (l.getD i E.d)]; exact (List.getElem?_eq_some_iff.1 hu).1
  have hc : ∀ j, (w.alloc (.cells cs T)).cell? ⟨w.heap.size, j, none⟩ = (flatG E l)[j]? := fun j => by
    rw [← hcs]
    unfold World.cell?
    rw [heap_alloc_new]
    simp
  rw [Nat.zero_add, hc, flatG_at l i hi j hj]; exact hu

/-- An append of what reads as a row to a row of one's own. -/
theorem appendG_run {P : Program} {ts te : TypeId} {zv : Value} {bytes : Nat} (hu : P.underlying ts = some (.slice te)) (hie : (P.info? te).map (fun i => (i.zero, i.size, i.bytes)) = some (some zv, E.z, bytes)) (hzc : zv.cells.size = E.z) (hby : bytes ≤ 100)
    {W : World} {B : Nat} {v y : Value} {xs ys : List α} (h : OwnG E te B W v xs) (hy : RowG E W y ys) (hl : xs.length + ys.length ≤ 1000000) (hB : B ≤ W.heap.size) :
    ∃ a c w', (Builtin.append_ #[ts, ts] ts #[v, y]).run P W = .ok (.slice a (xs ++ ys).length c) w' ∧ OwnG E te B w' (.slice a (xs ++ ys).length c) (xs ++ ys) ∧ Kept (fun k => v.ownBlock = some k) W w' ∧
      ((Value.slice a (xs ++ ys).length c).ownBlock = v.ownBlock ∨ (Value.slice a (xs ++ ys).length c).ownBlock = some W.heap.size) := by
  obtain ⟨i0, hi, hz0, hz1, hz2⟩ := info_parts hie
  have key : ∃ v' w', (Builtin.append_ #[ts, ts] ts #[v, y]).run P W = .ok v' w' ∧ OwnG E te B w' v' (xs ++ ys) ∧ Kept (fun k => v.ownBlock = some k) W w' ∧ (v'.ownBlock = v.ownBlock ∨ v'.ownBlock = some W.heap.size) := by
    have hy0 := hy
    rcases hy with ⟨rfl, rfl⟩ | ⟨g, off, cap, rfl, h1, h2, h3, h4⟩
    · exact ⟨v, W, run_append_owned_none W B ts ts te i0 E.z hu hi v _ _ h, by rw [List.append_nil]; exact h, Kept.refl _ _, Or.inl rfl⟩
    · have hcells : ∀ j u, (flatG E ys)[j]? = some u → W.cell? ((⟨g, off, none⟩ : Addr).add j) = some u := fun j u hu => by
        have hadd : (⟨g, off, none⟩ : Addr).add j = ⟨g, off + j, none⟩ := by unfold Addr.add; split <;> simp_all
        rw [hadd]
        exact hy0.flat j u hu
      have hmul : (xs.length + ys.length) * bytes ≤ 140737488355328 := by
        have := Nat.mul_le_mul hl hby
        omega
      obtain ⟨v', w', hr, ho, hg, _, hat⟩ := run_append_own_at (P := P) W B ts ts te i0 zv E.z bytes hu hi hz0 hz1 hz2 hzc E.pos v xs.length (flatG E xs) h ⟨g, off, none⟩ ys.length cap (flatG E ys)
        (flatG_length ys) hcells (flatG_one ys) (by unfold maxLen; omega) hmul hB
      exact ⟨v', w', hr, by unfold OwnG; rw [List.length_append, flatG_append]; exact ho, Kept.ofGrown hg fun k e => e, hat⟩
  obtain ⟨v', w', hr, hf, hk, hat⟩ := key
  obtain ⟨a, c, rfl, _, _⟩ := hf.form
  exact ⟨a, c, w', hr, hf, hk, hat⟩

/-- An append whose run is known, asked for or not (a guard that holds). -/
theorem wpList_appendG_run {P : Program} {w : World} {ops : Array Oper} {rest : List Oper} {o : Oper} {a : Act} {Q : Exit → Act → World → Prop} (hw : Region.wanted o (yielded ops a.tmps) = true) (s x : Operand) (t t' : TypeId)
    (ho : o.op = .call { callee := .builtin .append, args := #[s, x], argTypes := #[t, t'] }) (v u : Value) (hd : a.eval s = v) (hs : a.eval x = u) {v' : Value} {w' : World}
    (hr : (Builtin.append_ #[t, t'] o.type #[v, u]).run P w = .ok v' w') (h : wpList P ops Q rest (a.put o.dst v') w') : wpList P ops Q (o :: rest) a w := by
  refine wpList_step fun K hK => ?_
  rw [if_pos hw]
  unfold Oper.wp execOp
  simp only [ho, resolve, invoke, builtin, Sem.run_bind, Sem.run_pure, Result.andThen_ok, List.map_toArray, List.map_cons, List.map_nil, hd, hs, hr]
  exact hK _ _ h
/-- An append of the elements of a new block (a literal's) to a row of one's own. -/
theorem wpList_pushG {P : Program} {ts te : TypeId} {zv : Value} {bytes : Nat} (hu : P.underlying ts = some (.slice te)) (hie : (P.info? te).map (fun i => (i.zero, i.size, i.bytes)) = some (some zv, E.z, bytes)) (hzc : zv.cells.size = E.z) (hby : bytes ≤ 100)
    {w : World} {ops : Array Oper} {rest : List Oper} {o : Oper} {a : Act} {Q : Exit → Act → World → Prop} (hw : Region.wanted o (yielded ops a.tmps) = true) (s x : Operand)
    (ho : o.op = .call { callee := .builtin .append, args := #[s, x], argTypes := #[ts, ts] }) (hty : o.type = ts) (B : Nat) (v y : Value) (acc ys : List α) (hd : a.eval s = v) (hs : a.eval x = y)
    (hown : OwnG E te B w v acc) (hy : RowG E w y ys) (hl : acc.length + ys.length ≤ 1000000) (hB : B ≤ w.heap.size)
    (h : ∀ a' c' w', OwnG E te B w' (.slice a' (acc ++ ys).length c') (acc ++ ys) → Kept (fun k => v.ownBlock = some k) w w' → ((Value.slice a' (acc ++ ys).length c').ownBlock = v.ownBlock ∨ (Value.slice a' (acc ++ ys).length c').ownBlock = some w.heap.size) → wpList P ops Q rest (a.put o.dst (.slice a' (acc ++ ys).length c')) w') : wpList P ops Q (o :: rest) a w := by
  obtain ⟨a', c', w', hr, hf, hk, hat⟩ := appendG_run hu hie hzc hby hown hy hl hB
  exact wpList_appendG_run hw s x _ _ ho _ _ hd hs (by rw [hty]; exact hr) (h _ _ _ hf hk hat)

theorem heap_setCells_same (g : Nat) (e : TypeId) : ∀ (vs : List Value) (o : Nat) (w : World) (cur : Array Value), w.heap[g]? = some (.cells cur e (0, 0)) → o + vs.length ≤ cur.size →
    ∃ cur' : Array Value, (w.setCells g o vs).heap[g]? = some (.cells cur' e (0, 0)) ∧ cur'.size = cur.size ∧ ∀ j, cur'.toList[j]? = if o ≤ j ∧ j < o + vs.length then vs[j - o]? else cur.toList[j]?
  | [], o, w, cur, h, _ => ⟨cur, h, rfl, fun j => by rw [if_neg (by simp)]⟩
  | v :: r, o, w, cur, h, hl => by
    have hl' : o + 1 + r.length ≤ cur.size := by simp only [List.length_cons] at hl; omega
    obtain ⟨cur', h1, h2, h3⟩ := heap_setCells_same g e r (o + 1) (w.setCell ⟨g, o, none⟩ v) (cur.setIfInBounds o v) (heap_setCell_same w g o cur e v h) (by simpa using hl')
    refine ⟨cur', by rw [World.setCells]; exact h1, by simpa using h2, fun j => ?_⟩
    rw [h3 j]
    by_cases hj : j = o
    · subst hj
      rw [if_neg (by omega), if_pos (by simp), Nat.sub_self]
      simp only [Array.toList_setIfInBounds, List.getElem?_cons_zero]
      rw [List.getElem?_set_self (by simp; omega)]
    · by_cases hin : o + 1 ≤ j ∧ j < o + 1 + r.length
      · rw [if_pos hin, if_pos (by simp only [List.length_cons]; omega)]
        rw [show j - o = (j - (o + 1)) + 1 by omega, List.getElem?_cons_succ]
      · rw [if_neg hin, if_neg (by simp only [List.length_cons]; omega)]
        rw [Array.toList_setIfInBounds, List.getElem?_set_ne (by omega)]

theorem setCells_kept (g : Nat) : ∀ (vs : List Value) (o : Nat) (w : World), Kept (fun k => k = g) w (w.setCells g o vs)
  | [], _, w => Kept.refl _ _
  | v :: r, o, w => by
    rw [World.setCells]
    exact (Kept.setCell (fun k => k = g) w ⟨g, o, none⟩ v rfl).trans (setCells_kept g r (o + 1) _) (fun _ _ h => h) (fun _ _ h => h)

theorem row_set {T : TypeId} {B g n c n' : Nat} {w : World} {xs ys vs : List Value} {z : Nat} (h : w.ownsRow B T z (.slice (some ⟨g, 0, none⟩) n c) n xs) (o : Nat) (hn' : n' ≤ c) (hv : o + vs.length ≤ c * z) (hy : ys.length = n' * z)
    (he : ∀ cur : List Value, cur.length = c * z → cur.take (n * z) = xs → ∀ j, j < n' * z → ys[j]? = if o ≤ j ∧ j < o + vs.length then vs[j - o]? else cur[j]?) :
    (w.setCells g o vs).ownsRow B T z (.slice (some ⟨g, 0, none⟩) n' c) n' ys := by
  rcases h.2 with ⟨h', _⟩ | ⟨g', cap', cur, h', hb, hg, hnc, hcm, hcs, htake⟩
  · cases h'
  · cases h'
    obtain ⟨cur', h1, h2, h3⟩ := heap_setCells_same g T vs o w cur hg (by omega)
    refine ⟨hy, .inr ⟨g, c, cur', rfl, hb, h1, hn', hcm, by omega, ?_⟩⟩
    apply List.ext_getElem?
    intro j
    have hm : n' * z ≤ c * z := Nat.mul_le_mul_right z hn'
    by_cases hj : j < n' * z
    · rw [List.getElem?_take_of_lt hj, h3 j, he cur.toList (by simpa using hcs) htake j hj]
    · rw [List.getElem?_eq_none (by rw [List.length_take]; omega), List.getElem?_eq_none (by omega)]

theorem take_getElem? {α : Type} {cur X : List α} {m j : Nat} (h : cur.take m = X) (hj : j < m) : cur[j]? = X[j]? := by
  rw [← h, List.getElem?_take_of_lt hj]

theorem OwnG.put {T : TypeId} {B : Nat} {w : World} {g n c i : Nat} {l : List α} {x : α} (h : OwnG E T B w (.slice (some ⟨g, 0, none⟩) n c) l) (hn : n = l.length) (hi : i < n) :
    OwnG E T B (w.setCells g (i * E.z) (E.enc x)) (.slice (some ⟨g, 0, none⟩) n c) (l.set i x) := by
  have hX : (flatG E l).length = n * E.z := by rw [flatG_length, hn]
  obtain ⟨t1, t2⟩ := flatG_cut (E := E) l i (by omega)
  obtain ⟨_, t3⟩ := flatG_cut (E := E) l (i + 1) (by omega)
  have lx : (E.enc x).length = E.z := E.len x
  have e2 : flatG E (l.set i x) = (flatG E l).take (i * E.z) ++ E.enc x ++ (flatG E l).drop ((i + 1) * E.z) := by
    rw [List.set_eq_take_append_cons_drop, if_pos (by omega), flatG_append, show flatG E (x :: l.drop (i + 1)) = E.enc x ++ flatG E (l.drop (i + 1)) from rfl, t1, t3, List.append_assoc]
  unfold OwnG at h ⊢
  rw [List.length_set, ← hn, e2]
  rw [← hn] at h
  have hnc : n ≤ c ∧ c ≤ maxLen := by
    rcases h.2 with ⟨h', _⟩ | ⟨g', cap', cur, h', hb, hg, hnc, hcm, hcs, htake⟩
    · cases h'
    · cases h'; exact ⟨hnc, hcm⟩
  have ly : ((flatG E l).take (i * E.z)).length = i * E.z := by rw [List.length_take, hX, Nat.min_eq_left (Nat.mul_le_mul_right _ (by omega))]
  have ld : ((flatG E l).drop ((i + 1) * E.z)).length = n * E.z - (i + 1) * E.z := by rw [List.length_drop, hX]
  have hs := Nat.succ_mul i E.z
  simp only [Nat.succ_eq_add_one] at hs
  have hm : (i + 1) * E.z ≤ n * E.z := Nat.mul_le_mul_right _ (by omega)
  have hmc : n * E.z ≤ c * E.z := Nat.mul_le_mul_right _ hnc.1
  refine row_set h (i * E.z) hnc.1 (by rw [lx]; omega) (by simp only [List.length_append, ly, lx, ld]; omega) (fun cur hc ht j hj => ?_)
  rw [lx]
  by_cases j1 : j < i * E.z
  · rw [if_neg (by omega), List.append_assoc, List.getElem?_append_left (by omega), List.getElem?_take_of_lt j1]
    exact (take_getElem? ht hj).symm
  · by_cases j2 : j < i * E.z + E.z
    · rw [if_pos (by omega), List.getElem?_append_left (by rw [List.length_append, ly, lx]; omega), List.getElem?_append_right (by omega), ly]
    · rw [if_neg (by omega), List.getElem?_append_right (by rw [List.length_append, ly, lx]; omega), List.length_append, ly, lx, List.getElem?_drop, show (i + 1) * E.z + (j - (i * E.z + E.z)) = j by omega]
      exact (take_getElem? ht hj).symm

theorem OwnG.cellsC {T : TypeId} {B g n c : Nat} {w : World} {l : List α} (h : OwnG E T B w (.slice (some ⟨g, 0, none⟩) n c) l) : (∀ j, j < c * E.z → (w.cell? ⟨g, j, none⟩).isSome = true) ∧ (∀ j, w.frozen? ⟨g, j, none⟩ = false) ∧ l.length ≤ c ∧ c ≤ maxLen ∧ B ≤ g ∧ g < w.heap.size := by
  have hlt := World.ownsRow.lt h g rfl
  rcases h.2 with ⟨h', _⟩ | ⟨g', cap', cur, h', hb, hg, hnc, hcm, hcs, htake⟩
  · cases h'
  · cases h'
    exact ⟨fun j hj => by rw [cell_of_row w g j cur _ (0, 0) hg]; simp; omega, fun j => frozen_of_row w g j cur _ hg, hnc, hcm, hlt.1, hlt.2⟩

theorem OwnG.cutTo {T : TypeId} {B g n c m : Nat} {w : World} {l : List α} (h : OwnG E T B w (.slice (some ⟨g, 0, none⟩) n c) l) (hn : n = l.length) (hm : m ≤ n) (zs : List Value) (hz : m * E.z + zs.length ≤ c * E.z) :
    OwnG E T B (w.setCells g (m * E.z) zs) (.slice (some ⟨g, 0, none⟩) m c) (l.take m) := by
  obtain ⟨_, _, h3, _⟩ := h.cellsC
  have hl : (l.take m).length = m := by rw [List.length_take]; omega
  unfold OwnG at h ⊢
  rw [hl]
  rw [← hn] at h
  have t1 := (flatG_cut (E := E) l m (by omega)).1
  have hX : (flatG E l).length = n * E.z := by rw [flatG_length, hn]
  have hmz : m * E.z ≤ n * E.z := Nat.mul_le_mul_right _ hm
  refine row_set h (m * E.z) (by omega) hz (by rw [flatG_length, hl]) (fun cur hc ht j hj => ?_)
  rw [if_neg (by omega), t1, List.getElem?_take_of_lt hj]
  exact (take_getElem? ht (by omega)).symm

section
variable {P : Program}
theorem run_clear_wide (w : World) (t e ty : TypeId) (z : Value) (ht : P.underlying t = some (.slice e)) (hv : ∀ w, (zeroValue e).run P w = .ok z w) (b o n c : Nat) (hn : 0 < n) (zs : List Value) (hz : (Builtin.zeroCells z.cells n).toList = zs)
    (h1 : ∀ v ∈ zs, v.oneCell' = true) (hc : ∀ j, j < zs.length → (w.cell? ⟨b, o + j, none⟩).isSome = true) (hf : ∀ j, j < zs.length → w.frozen? ⟨b, o + j, none⟩ = false) :
    (Builtin.clear_ #[t] ty #[.slice (some ⟨b, o, none⟩) n c]).run P w = .ok (.tuple #[]) (w.setCells b o zs) := by
  have hst := run_storeCells_cells (P := P) b o zs 0 w (by simpa using hc) (by simpa using hf) h1
  simp only [Nat.add_zero] at hst
  obtain ⟨m, rfl⟩ : ∃ m, n = m + 1 := ⟨n - 1, by omega⟩
  simp [Builtin.clear_, run_underlying ht, hv, hz, hst]
theorem wpList_clear_run (w : World) {ops : Array Oper} {rest : List Oper} {o : Oper} {a : Act} {Q : Exit → Act → World → Prop} (hgd : o.guard = none) (x : Operand) (t : TypeId)
    (ho : o.op = .call { callee := .builtin .clear, args := #[x], argTypes := #[t] }) (v : Value) (hx : a.eval x = v) {v' : Value} {w' : World}
    (hr : (Builtin.clear_ #[t] o.type #[v]).run P w = .ok v' w') (h : wpList P ops Q rest (a.put o.dst v') w') : wpList P ops Q (o :: rest) a w := by
  refine wpList_plain hgd fun K hK => ?_
  unfold Oper.wp execOp
  simp only [ho, resolve, invoke, builtin, Sem.run_bind, Sem.run_pure, Result.andThen_ok, List.map_toArray, List.map_cons, List.map_nil, hx, hr]
  exact hK _ _ h
end



end Go.Proofs.YtjglnpijngdpkaaGreatDoor
