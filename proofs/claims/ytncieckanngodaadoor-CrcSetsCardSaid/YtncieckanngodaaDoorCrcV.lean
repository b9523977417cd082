/-
  Slices of slices of bytes of one's own; crc.Scan: the payloads of the frames at the beginning, and how many bytes these frames have.
-/
import Derived.Test.YtncieckanngodaaDoorCrcN
import Derived.Test.YtncieckanngodaaDoorCrcT
namespace Go.Proofs.YtncieckanngodaaDoor
open Go.RowKit

theorem info_bs : (Tryd.prog.info? 26).map (fun i => (i.zero, i.size, i.bytes)) = some (some (.slice none 0 0), 1, 24) := by kernel_rfl

/-- A row of slices of bytes: its elements read as these bytes, and lie elsewhere. -/
structure Pays (w : World) (B : Nat) (v : Value) (vs : List Value) (ps : List (List Nat)) : Prop where
  own : w.ownsRow B 26 1 v vs.length vs
  len : vs.length = ps.length
  el : ∀ i, i < ps.length → Reads w (vs.getD i (.bool false)) (ps.getD i [])
  apart : ∀ i, i < ps.length → ∀ k, (vs.getD i (.bool false)).ownBlock = some k → v.ownBlock ≠ some k

theorem Pays.kept {a b : World} {B : Nat} {v : Value} {vs : List Value} {ps : List (List Nat)} (h : Pays a B v vs ps) (hk : Kept (fun _ => False) a b) : Pays b B v vs ps :=
  ⟨hk.owns h.own (fun _ _ h => h), h.len, fun i hi => (h.el i hi).kept hk (fun _ _ h => h), h.apart⟩

theorem Pays.nil (w : World) (B : Nat) : Pays w B (.slice none 0 0) [] [] :=
  ⟨World.ownsRow_nil _ _ _ _, rfl, fun i hi => by simp at hi, fun i hi => by simp at hi⟩

theorem Pays.push {w w1 : World} {B : Nat} {v v' : Value} {vs : List Value} {ps : List (List Nat)} {p : Value} {xs : List Nat} (h : Pays w B v vs ps) (hp : Reads w p xs) (hpa : ∀ k, p.ownBlock = some k → v.ownBlock ≠ some k) (hk : Kept (blk v) w w1)
    (hown : w1.ownsRow B 26 1 v' (vs.length + 1) (vs ++ [p])) (hat : v'.ownBlock = v.ownBlock ∨ ∀ k, v'.ownBlock = some k → w.heap.size ≤ k) : Pays w1 B v' (vs ++ [p]) (ps ++ [xs]) := by
  have hl := h.len
  have g1 : ∀ i, i < ps.length → (vs ++ [p]).getD i (.bool false) = vs.getD i (.bool false) ∧ (ps ++ [xs]).getD i [] = ps.getD i [] := fun i hi => by
    simp [List.getD, List.getElem?_append_left (show i < vs.length by omega), List.getElem?_append_left hi]
  have g2 : (vs ++ [p]).getD ps.length (.bool false) = p ∧ (ps ++ [xs]).getD ps.length [] = xs := by
    rw [← hl]
    refine ⟨by simp [List.getD], ?_⟩
    rw [hl]; simp [List.getD]
  refine ⟨by rw [List.length_append]; exact hown, by simp [hl], fun i hi => ?_, fun i hi k hb => ?_⟩
  · by_cases h1 : i < ps.length
    · rw [(g1 i h1).1, (g1 i h1).2]
      exact (h.el i h1).kept hk fun k hb e => h.apart i h1 k hb e
    · obtain rfl : i = ps.length := by simp at hi; omega
      rw [g2.1, g2.2]
      exact hp.kept hk fun k hb e => hpa k hb e
  · by_cases h1 : i < ps.length
    · rw [(g1 i h1).1] at hb
      rcases hat with e | e
      · rw [e]; exact h.apart i h1 k hb
      · intro e2; have := e k e2; have := (h.el i h1).lt k hb; omega
    · obtain rfl : i = ps.length := by simp at hi; omega
      rw [g2.1] at hb
      rcases hat with e | e
      · rw [e]; exact hpa k hb
      · intro e2; have := e k e2; have := hp.lt k hb; omega

/-- What Scan keeps. -/
def ScanInv (w wr : World) (xs : List Nat) (v : Value) (at' : Nat) : Prop :=
  ∃ vs ps, Pays wr w.heap.size v vs ps ∧ pays xs = ps ++ pays (xs.drop at') ∧ (lens xs).sum = at' + (lens (xs.drop at')).sum ∧ at' ≤ xs.length ∧ ps.length * 8 ≤ at' ∧ Kept (fun _ => False) w wr

theorem scanInv_start (w : World) (xs : List Nat) : ScanInv w w xs (.slice none 0 0) 0 :=
  ⟨[], [], Pays.nil _ _, by simp, by simp, by omega, by simp, Kept.refl _ _⟩

/-- The slice behind the first k cells: at the end of its room it keeps its address. -/
theorem Reads.behind {w : World} {a : Option Addr} {c k : Nat} {xs : List Nat} (h : Reads w (.slice a xs.length c) xs) (hk : k ≤ xs.length) :
    (k = c → xs.length = k ∧ Reads w (.slice a 0 0) (xs.drop k)) ∧ (k ≠ c → ∃ g off, a = some ⟨g, off, none⟩ ∧ Reads w (.slice (some ⟨g, off + k, none⟩) (xs.length - k) (c - k)) (xs.drop k)) ∧ xs.length ≤ c := by
  have h' := h
  rcases h with ⟨h1, h2⟩ | ⟨g, off, cap, h1, h2, h3, h4, _⟩
  · subst h2
    injection h1 with e1 e2 e3
    subst e1 e3
    obtain rfl : k = 0 := by simpa using hk
    exact ⟨fun _ => ⟨rfl, Or.inl ⟨rfl, rfl⟩⟩, fun h => absurd rfl h, by simp⟩
  · cases h1
    refine ⟨fun he => ⟨by omega, ?_⟩, fun _ => ⟨g, off, rfl, Reads.drop k h' hk⟩, h2⟩
    have h0 : xs.drop k = [] := List.drop_of_length_le (by omega)
    rw [h0]
    exact Or.inr ⟨g, off, 0, rfl, by simp, by simp, h4, fun i hi => by simp at hi⟩

theorem scan_more {xs : List Nat} {k : Nat} {ps : List (List Nat)} (hp : pays xs = ps ++ pays (xs.drop k)) (hl : (lens xs).sum = k + (lens (xs.drop k)).sum) (hk : k ≤ xs.length) (h8 : ps.length * 8 ≤ k) (hn : nextS (xs.drop k) ≠ 0) :
    pays xs = (ps ++ [((xs.drop k).drop 8).take (de4 (xs.drop k))]) ++ pays (xs.drop (k + nextS (xs.drop k))) ∧ (lens xs).sum = (k + nextS (xs.drop k)) + (lens (xs.drop (k + nextS (xs.drop k)))).sum ∧
      k + nextS (xs.drop k) ≤ xs.length ∧ (ps ++ [((xs.drop k).drop 8).take (de4 (xs.drop k))]).length * 8 ≤ k + nextS (xs.drop k) := by
  have h := nextS_8 _ hn
  have hle := nextS_le (xs.drop k)
  rw [List.length_drop] at hle
  refine ⟨?_, ?_, by omega, by simp; omega⟩
  · rw [hp, pays_some hn, List.drop_drop (i := nextS (xs.drop k)), List.append_assoc]; rfl
  · rw [hl, lens_some hn, List.drop_drop, List.sum_cons]; omega

theorem scan_done {xs : List Nat} {k : Nat} {ps : List (List Nat)} (hp : pays xs = ps ++ pays (xs.drop k)) (hl : (lens xs).sum = k + (lens (xs.drop k)).sum) (hn : nextS (xs.drop k) = 0) : pays xs = ps ∧ (lens xs).sum = k := by
  rw [hp, hl, pays_none hn, lens_none hn]; simp

set_option maxRecDepth 100000 in
set_option maxHeartbeats 1600000 in
theorem scan_any (p : Value) (xs : List Nat) (w : World) (hp : Reads w p xs) (hb : ∀ x ∈ xs, x < 256) (hT : Tab w) (hlen : xs.length ≤ 100000) :
    Calls Tryd.prog 28 #[p] w fun e w' => ∃ v' vs, e = .returned (.tuple #[v', .int .i64 ((lens xs).sum : Nat)]) ∧ Pays w' w.heap.size v' vs (pays xs) ∧ Kept (fun _ => False) w w' := by
  obtain ⟨i0, hi, hz0, hz1, hz2⟩ := info_parts info_bs
  obtain ⟨a, c, rfl⟩ := hp.form
  have hcm : xs.length ≤ c := (hp.behind (Nat.zero_le _)).2.2
  have hdb : ∀ k, ∀ x ∈ xs.drop k, x < 256 := fun k x hx => hb x (List.mem_of_mem_drop hx)
  obtain ⟨n, hn⟩ : ∃ n, n = xs.length := ⟨_, rfl⟩
  rw [← hn] at hp hlen hcm ⊢
  have HP := Lib.hid hp; have HB := Lib.hid hdb; have HT := Lib.hid hT; have HN := Lib.hid hn
  clear hp hb hT hdb hn
  have HS := Lib.hid (scanInv_start w xs)
  go_enter Tryd.func28, Tryd.ntmps28
  go_wp2_with fail
  go_loopw [2, 3] (fun vv iv wr => ∃ k : Nat, iv = .int .i64 k ∧ k ≤ n ∧ Hid (ScanInv w wr xs vv k)) (fun _ iv _ => n - (intOf iv).toNat)
  case atStart => exact ⟨0, rfl, Nat.zero_le _, HS⟩
  case round =>
    obtain ⟨k, rfl, hk, hinv⟩ := hrel
    obtain ⟨vs, ps, hpv, hpp, hll, hkl, h8, hkw⟩ := hinv.out
    have hrd0 : Reads wr (.slice a xs.length c) xs := by rw [← HN.out]; exact HP.out.kept hkw (fun _ _ h => h)
    obtain ⟨hb1, hb2, _⟩ := hrd0.behind hkl
    have nx := fun (v : Value) (hv : Reads wr v (xs.drop k)) => next_any v _ wr hv (HB.out k) (HT.out.kept hkw (fun h => h))
    have NX := Lib.hid nx; have HPV := Lib.hid hpv; have HPP := Lib.hid hpp; have HLL := Lib.hid hll; have HKL := Lib.hid hkl; have H8 := Lib.hid h8; have HKW := Lib.hid hkw
    have hvlt := hpv.own.lt
    have hvb : vs.length * 8 ≤ k := by rw [hpv.len]; exact h8
    have HVLT := Lib.hid hvlt
    clear nx hpv hpp hll hkl h8 hkw hrd0 hinv hvlt HS
    by_cases hkc : k = c
    · obtain ⟨e1, e2⟩ := hb1 hkc
      have E2 := Lib.hid e2
      have hdn : xs.drop k = [] := List.drop_of_length_le (by omega)
      have HDN := Lib.hid hdn
      subst hkc
      obtain rfl : k = n := by rw [HN.out]; omega
      clear hb1 hb2 e1 e2 hdn
      go_wp2_with fail
      refine (NX.out _ E2.out).mono ?_
      rintro e w2 (⟨hn0, rfl, hk2⟩ | ⟨hn1, _⟩)
      · have hd := scan_done HPP.out HLL.out hn0
        have HD := Lib.hid hd
        clear hn0 hd
        go_wp2_with fail
        go_ret2
        exact ⟨u2, vs, by rw [HD.out.2]; rfl, by rw [HD.out.1]; exact HPV.out.kept hk2, HKW.out.then hk2⟩
      · exact absurd (by rw [HDN.out]; rfl) hn1
    · obtain ⟨g, off, rfl, e2⟩ := hb2 hkc
      have E2 := Lib.hid e2
      have k1 : (k : Int) ≤ n := by omega
      have k2 : k ≤ c := by omega
      have k3 : (k : Int) ≤ c := by omega
      have hkc' : ¬ c = k := fun e => hkc e.symm
      rw [← HN.out] at E2
      clear hb1 hb2 e2
      go_wp2_with fail
      refine (NX.out _ E2.out).mono ?_
      rintro e w2 (⟨hn0, rfl, hk2⟩ | ⟨hn1, v2, rfl, hf2, hk2⟩)
      · have hd := scan_done HPP.out HLL.out hn0
        have HD := Lib.hid hd
        clear hn0 hd
        go_wp2_with fail
        go_ret2
        exact ⟨u2, vs, by rw [HD.out.2]; rfl, by rw [HD.out.1]; exact HPV.out.kept hk2, HKW.out.then hk2⟩
      · obtain ⟨q1, q2, q3, q4⟩ := scan_more HPP.out HLL.out HKL.out H8.out hn1
        have q3' : k + nextS (xs.drop k) ≤ n := by rw [HN.out]; exact q3
        have hm8 : 0 < nextS (xs.drop k) := by omega
        have Q1 := Lib.hid q1; have Q2 := Lib.hid q2; have Q3 := Lib.hid q3; have Q4 := Lib.hid q4
        clear q1 q2 q3 q4 hn1
        generalize hzs : ((xs.drop k).drop 8).take (de4 (xs.drop k)) = zs at Q1 Q4 hf2
        generalize nextS (xs.drop k) = m at Q1 Q2 Q3 Q4 q3' hm8
        have hpv2 := HPV.out.kept hk2
        obtain ⟨a2, c2, hv2⟩ := hf2.reads.form
        have hsz2 := hk2.size
        have hsz0 := HKW.out.size
        have hp2 : Hid (Pays w2 w.heap.size u2 vs ps) := hpv2
        have HF2 := Lib.hid hf2; have HK2 := Lib.hid hk2
        have hm1 : vs.length + 1 ≤ maxLen := by unfold maxLen; omega
        have hm2 : (vs.length + 1) * 24 ≤ 140737488355328 := by omega
        have HZS := Lib.hid hzs
        clear hpv2 hf2 hk2 hzs
        subst hv2
        go_wp2_with (at_builtin; refine wpList_append_lies _ rfl _ _ _ rfl w.heap.size 26 i0 _ 1 24 Tryd.underlying22 hi hz0 hz1 hz2 rfl (by omega) u2 _ _ rfl (hp2.out.own.alloc _) ⟨w2.heap.size, 0, none⟩ 1 1 [.slice a2 zs.length c2] rfl rfl (World.news_of_block (cs := #[.slice a2 zs.length c2]) (t := 26) (fr := (0, 0)) (heap_alloc_new w2 _)) (by simp [Value.oneCell']) (by omega) hm1 hm2 (by simp; omega) (w2.heap.size + 1) (by simp) ?_)
        intro gg cap w3 hown3 hgrow hat hgl
        have kp : Kept (blk u2) w2 w3 := (Kept.alloc (fun _ => False) w2 _).trans (Kept.ofGrown (S := blk u2) hgrow fun k e => e) (fun _ _ h => h.elim) (fun _ _ h => h)
        have hu0 : ∀ k, u2.ownBlock = some k → k < wr.heap.size := fun k hk => (HVLT.out k hk).2
        have hu1 : ∀ k, u2.ownBlock = some k → w.heap.size ≤ k := fun k hk => (HVLT.out k hk).1
        have hpush : Pays w3 w.heap.size (.slice (some ⟨gg, 0, none⟩) (vs.length + 1) cap) (vs ++ [.slice a2 zs.length c2]) (ps ++ [zs]) := Pays.push hp2.out HF2.out.reads (fun j hj e => by have := HF2.out.block j hj; have := hu0 j e; omega) kp hown3 (by
          rcases hat with e | e
          · exact Or.inl (by rw [e]; rfl)
          · exact Or.inr fun j hj => by simp [Value.ownBlock] at hj; omega)
        have hkw3 : Kept (fun _ => False) w w3 := (HKW.out.then HK2.out).trans kp (fun _ _ h => h) (fun i hi hb => by have := hu1 i hb; omega)
        have HI : Hid (ScanInv w w3 xs (.slice (some ⟨gg, 0, none⟩) (vs.length + 1) cap) (k + m)) := ⟨_, _, hpush, Q1.out, Q2.out, Q3.out, Q4.out, hkw3⟩
        clear hpush hown3 hgrow hat hgl kp hkw3 hu0 hu1
        go_wp2
        go_roundw
        case rel => exact ⟨k + m, by go_num, by omega, HI⟩
        case measure => simp [intOf]; omega
end Go.Proofs.YtncieckanngodaaDoor
