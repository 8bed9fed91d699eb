import Derived.Test.YtgkiknfpcbcnnabGreatGg
namespace Go.Proofs.YtgkiknfpcbcnnabGreat
open Go.RowKit
set_option maxRecDepth 20000

/-- Of the row at block g, of cap records, the first m are a, b, c, d. -/
def Full (w : World) (g : Nat) (T : TypeId) (cap m : Nat) (a b c d : Value) : Prop :=
  ∃ cur : Array Value, w.heap[g]? = some (.cells cur T (0, 0)) ∧ cur.size = cap * 4 ∧ ∀ k, k < m → cur[k * 4]? = some a ∧ cur[k * 4 + 1]? = some b ∧ cur[k * 4 + 2]? = some c ∧ cur[k * 4 + 3]? = some d

theorem setCell_heap {w : World} {g o : Nat} {cur : Array Value} {T : TypeId} {u : Value} (h : w.heap[g]? = some (.cells cur T (0, 0))) : (w.setCell ⟨g, o, none⟩ u).heap[g]? = some (.cells (cur.setIfInBounds o u) T (0, 0)) := by
  simp [World.setCell, Array.getElem?_modify, h]

theorem Full.step {w : World} {g : Nat} {T : TypeId} {cap m : Nat} {a b c d : Value} (h : Full w g T cap m a b c d) (hm : m < cap) :
    Full ((((w.setCell ⟨g, m * 4, none⟩ a).setCell ⟨g, m * 4 + 1, none⟩ b).setCell ⟨g, m * 4 + 2, none⟩ c).setCell ⟨g, m * 4 + 3, none⟩ d) g T cap (m + 1) a b c d := by
  obtain ⟨cur, hh, hs, hf⟩ := h
  refine ⟨_, setCell_heap (setCell_heap (setCell_heap (setCell_heap hh))), by simp [hs], ?_⟩
  intro k hk
  simp only [Array.getElem?_setIfInBounds, Array.size_setIfInBounds, hs]
  by_cases e : k = m
  · subst e
    refine ⟨?_, ?_, ?_, ?_⟩
    · rw [if_neg (by omega), if_neg (by omega), if_neg (by omega), if_pos rfl, if_pos (by omega)]
    · rw [if_neg (by omega), if_neg (by omega), if_pos rfl, if_pos (by omega)]
    · rw [if_neg (by omega), if_pos rfl, if_pos (by omega)]
    · rw [if_pos rfl, if_pos (by omega)]
  · obtain ⟨f0, f1, f2, f3⟩ := hf k (by omega)
    refine ⟨?_, ?_, ?_, ?_⟩
    · rw [if_neg (by omega), if_neg (by omega), if_neg (by omega), if_neg (by omega)]; exact f0
    · rw [if_neg (by omega), if_neg (by omega), if_neg (by omega), if_neg (by omega)]; exact f1
    · rw [if_neg (by omega), if_neg (by omega), if_neg (by omega), if_neg (by omega)]; exact f2
    · rw [if_neg (by omega), if_neg (by omega), if_neg (by omega), if_neg (by omega)]; exact f3

theorem Full.same {w w' : World} {g : Nat} {T : TypeId} {cap m : Nat} {a b c d : Value} (h : Full w g T cap m a b c d) (hb : w'.heap[g]? = w.heap[g]?) : Full w' g T cap m a b c d := by
  obtain ⟨cur, hh, r⟩ := h
  exact ⟨cur, by rw [hb]; exact hh, r⟩

theorem Full.lt {w : World} {g : Nat} {T : TypeId} {cap m : Nat} {a b c d : Value} (h : Full w g T cap m a b c d) : g < w.heap.size := by
  obtain ⟨cur, hh, _⟩ := h; exact lt_of_block hh

/-- The cells of a record that may be anything. -/
theorem Full.some4 {w : World} {g : Nat} {T : TypeId} {cap m : Nat} {a b c d : Value} (h : Full w g T cap m a b c d) (k : Nat) (hk : k < cap) :
    ∃ x y z u, w.cell? ⟨g, k * 4, none⟩ = some x ∧ w.cell? ⟨g, k * 4 + 1, none⟩ = some y ∧ w.cell? ⟨g, k * 4 + 2, none⟩ = some z ∧ w.cell? ⟨g, k * 4 + 3, none⟩ = some u ∧ ∀ o, w.frozen? ⟨g, o, none⟩ = false := by
  obtain ⟨cur, hh, hs, _⟩ := h
  have hc : ∀ o (ho : o < cur.size), w.cell? ⟨g, o, none⟩ = some cur[o] := fun o ho => by rw [cell_of_row w g o cur T (0, 0) hh]; exact Array.getElem?_eq_getElem ho
  exact ⟨_, _, _, _, hc (k * 4) (by omega), hc (k * 4 + 1) (by omega), hc (k * 4 + 2) (by omega), hc (k * 4 + 3) (by omega), fun o => by simp [World.frozen?, hh]⟩

theorem Full.known {w : World} {g : Nat} {T : TypeId} {cap m : Nat} {a b c d : Value} (h : Full w g T cap m a b c d) (k : Nat) (hk : k < m) :
    w.cell? ⟨g, k * 4, none⟩ = some a ∧ w.cell? ⟨g, k * 4 + 1, none⟩ = some b ∧ w.cell? ⟨g, k * 4 + 2, none⟩ = some c ∧ w.cell? ⟨g, k * 4 + 3, none⟩ = some d := by
  obtain ⟨cur, hh, hs, hf⟩ := h
  obtain ⟨f0, f1, f2, f3⟩ := hf k hk
  exact ⟨by rw [cell_of_row w g _ cur T (0, 0) hh]; exact f0, by rw [cell_of_row w g _ cur T (0, 0) hh]; exact f1, by rw [cell_of_row w g _ cur T (0, 0) hh]; exact f2, by rw [cell_of_row w g _ cur T (0, 0) hh]; exact f3⟩

/-- Only blocks of S have turned. -/
structure Chg (S : Nat → Prop) (w w' : World) : Prop where
  os : w'.os = w.os
  tape : w'.tape = w.tape
  output : w'.output = w.output
  size : w.heap.size ≤ w'.heap.size
  block : ∀ k, k < w.heap.size → ¬ S k → w'.heap[k]? = w.heap[k]?

theorem Chg.refl (S : Nat → Prop) (w : World) : Chg S w w := ⟨rfl, rfl, rfl, Nat.le_refl _, fun _ _ _ => rfl⟩
theorem Chg.trans {S : Nat → Prop} {a b c : World} (h : Chg S a b) (k : Chg S b c) : Chg S a c :=
  ⟨k.os.trans h.os, k.tape.trans h.tape, k.output.trans h.output, Nat.le_trans h.size k.size, fun i hi hn => (k.block i (by have := h.size; omega) hn).trans (h.block i hi hn)⟩
theorem Chg.of_below {S : Nat → Prop} {w w' : World} (h : Below w.heap.size w w') : Chg S w w' := ⟨h.os, h.tape, h.output, h.size, fun k hk _ => h.block k hk⟩
theorem Chg.setCell {S : Nat → Prop} (w : World) {p : Addr} (hp : S p.block) (u : Value) : Chg S w (w.setCell p u) :=
  ⟨rfl, rfl, rfl, by simp [World.setCell], fun k _ hn => Below.heap_setCell _ _ _ _ (fun e => hn (by rw [e]; exact hp))⟩
theorem Chg.mono {S S' : Nat → Prop} {w w' : World} (h : Chg S w w') (hs : ∀ k, k < w.heap.size → S k → S' k) : Chg S' w w' := ⟨h.os, h.tape, h.output, h.size, fun k hk hn => h.block k hk (fun hh => hn (hs k hk hh))⟩
theorem Chg.below {S : Nat → Prop} {W w w' : World} {B : Nat} (hb : Below B W w) (h : Chg S w w') (hB : B ≤ w.heap.size) (hs : ∀ k, S k → B ≤ k) : Below B W w' :=
  hb.trans ⟨h.os, h.tape, h.output, h.size, fun k hk => h.block k (by omega) (fun hh => by have := hs k hh; omega)⟩
theorem Chg.cell {S : Nat → Prop} {w w' : World} (h : Chg S w w') {a : Addr} (ha : a.block < w.heap.size) (hn : ¬ S a.block) : w'.cell? a = w.cell? a := World.cell?_of_block (h.block _ ha hn)
end Go.Proofs.YtgkiknfpcbcnnabGreat

namespace Go.Proofs.YtgkiknfpcbcnnabGreat
open Go.RowKit
set_option maxRecDepth 20000

theorem infoTerms : (Tryz.prog.info? 97).map (fun i => (i.zero, i.size, i.bytes)) = some (some (.slice none 0 0), 1, 24) := by kernel_rfl

/-- A list of terms with its spare room, written full or not. -/
def SpR (w : World) (tv : Value) (done : Bool) (j : Int) : Prop :=
  tv = .slice none 0 0 ∨ ∃ g n cap, tv = .slice (some ⟨g, 0, none⟩) n cap ∧ n ≤ cap ∧ cap ≤ 9223372036854775807 ∧ Full w g 162 cap (if done then cap else 0) (.bool true) (.bool true) (.int .i64 (-9)) (.int .i64 (-9 - j))

theorem SpR.same {w w' : World} {tv : Value} {d : Bool} {j : Int} (h : SpR w tv d j) (hb : ∀ k, tv.ownBlock = some k → w'.heap[k]? = w.heap[k]?) : SpR w' tv d j := by
  rcases h with h | ⟨g, n, cap, rfl, h1, h2, h3⟩
  · exact .inl h
  · exact .inr ⟨g, n, cap, rfl, h1, h2, h3.same (hb g rfl)⟩

theorem SpR.of_owns {w : World} {B : Nat} {tv : Value} {n : Nat} {xs : List Value} (h : w.ownsRow B 162 4 tv n xs) (j : Int) : SpR w tv false j := by
  rcases h.2 with ⟨h, _⟩ | ⟨g, cap, cur, rfl, _, hh, h1, h2, h3, _⟩
  · exact .inl h
  · exact .inr ⟨g, n, cap, rfl, h1, by unfold maxLen at h2; exact h2, cur, hh, h3, fun k hk => absurd hk (by simp)⟩

theorem SpR.lt {w : World} {tv : Value} {d : Bool} {j : Int} (h : SpR w tv d j) : ∀ k, tv.ownBlock = some k → k < w.heap.size := by
  intro k hk
  rcases h with rfl | ⟨g, n, cap, rfl, _, _, h3⟩
  · simp [Value.ownBlock] at hk
  · simp only [Value.ownBlock, Option.some.injEq] at hk
    subst hk; exact h3.lt

def fullOf : Value → Value
  | .slice a _ c => .slice a c c
  | v => v

def InS (qs : List (Pt × Value)) (k : Nat) : Prop := ∃ q ∈ qs, q.2.ownBlock = some k

/-- Where writeOver's outer loop stands. -/
structure WO (w0 : World) (qs : List (Pt × Value)) (i : Nat) (wr : World) (v : Value) : Prop where
  chg : Chg (InS qs) w0 wr
  rows : ∀ j (h : j < qs.length), SpR wr qs[j].2 (decide (j < i)) j
  own : wr.ownsRow w0.heap.size 97 1 v i ((qs.take i).map fun q => fullOf q.2)

theorem WO.start {w : World} {B : Nat} {v : Value} {qs : List (Pt × Value)} (h : RuleAt w B v qs) : WO w qs 0 w (.slice none 0 0) :=
  ⟨Chg.refl _ _, fun _ hj => SpR.of_owns (h.terms _ (List.getElem_mem hj)) _, World.ownsRow_nil _ _ _ _⟩

/-- Where the inner loop stands. -/
structure WI (w0 : World) (qs : List (Pt × Value)) (i : Nat) (g cap k : Nat) (wr : World) (v : Value) : Prop where
  chg : Chg (InS qs) w0 wr
  rows : ∀ j (h : j < qs.length), j ≠ i → SpR wr qs[j].2 (decide (j < i)) j
  row : Full wr g 162 cap k (.bool true) (.bool true) (.int .i64 (-9)) (.int .i64 (-9 - (i : Int)))
  own : wr.ownsRow w0.heap.size 97 1 v i ((qs.take i).map fun q => fullOf q.2)

theorem apart_get {qs : List (Pt × Value)} (h : qs.Pairwise fun x y => x.2.ownBlock = none ∨ x.2.ownBlock ≠ y.2.ownBlock) {i j : Nat} (hi : i < qs.length) (hj : j < qs.length) (hne : j ≠ i) {g : Nat} (hg : qs[i].2.ownBlock = some g) : qs[j].2.ownBlock ≠ some g := by
  rw [List.pairwise_iff_getElem] at h
  intro he
  rcases Nat.lt_or_gt_of_ne hne with hlt | hgt
  · rcases h j i hj hi hlt with h | h
    · rw [he] at h; cases h
    · exact h (by rw [he, hg])
  · rcases h i j hi hj hgt with h | h
    · rw [hg] at h; cases h
    · exact h (by rw [he, hg])

theorem WI.below {w0 wr w' : World} {qs : List (Pt × Value)} {i g cap k : Nat} {v : Value} (h : WI w0 qs i g cap k wr v) (hb : Below wr.heap.size wr w') : WI w0 qs i g cap k w' v :=
  ⟨h.chg.trans (Chg.of_below hb), fun j hj hne => (h.rows j hj hne).same (fun k hk => hb.block k ((h.rows j hj hne).lt k hk)), h.row.same (hb.block g h.row.lt), ownsRow_below h.own hb⟩

theorem WI.step {w0 wr : World} {qs : List (Pt × Value)} {i g cap k : Nat} {v : Value} (h : WI w0 qs i g cap k wr v) (hk : k < cap) (hi : i < qs.length) (hg : qs[i].2.ownBlock = some g) (hg0 : g < w0.heap.size) (hap : qs.Pairwise fun x y => x.2.ownBlock = none ∨ x.2.ownBlock ≠ y.2.ownBlock) :
    WI w0 qs i g cap (k + 1) ((((wr.setCell ⟨g, k * 4, none⟩ (.bool true)).setCell ⟨g, k * 4 + 1, none⟩ (.bool true)).setCell ⟨g, k * 4 + 2, none⟩ (.int .i64 (-9))).setCell ⟨g, k * 4 + 3, none⟩ (.int .i64 (-9 - (i : Int)))) v := by
  have hS : InS qs g := ⟨qs[i], List.getElem_mem hi, hg⟩
  have hblk : ∀ b, b ≠ g → ((((wr.setCell ⟨g, k * 4, none⟩ (.bool true)).setCell ⟨g, k * 4 + 1, none⟩ (.bool true)).setCell ⟨g, k * 4 + 2, none⟩ (.int .i64 (-9))).setCell ⟨g, k * 4 + 3, none⟩ (.int .i64 (-9 - (i : Int)))).heap[b]? = wr.heap[b]? := fun b hb => by
    rw [Below.heap_setCell _ _ _ _ hb, Below.heap_setCell _ _ _ _ hb, Below.heap_setCell _ _ _ _ hb, Below.heap_setCell _ _ _ _ hb]
  refine ⟨?_, ?_, h.row.step hk, ?_⟩
  · exact (((h.chg.trans (Chg.setCell _ hS _)).trans (Chg.setCell _ hS _)).trans (Chg.setCell _ hS _)).trans (Chg.setCell _ hS _)
  · intro j hj hne
    exact (h.rows j hj hne).same (fun b hb => hblk b (fun e => by subst e; exact apart_get hap hi hj hne hg hb))
  · rcases h.own.2 with hn | ⟨g', cap', cur, hv, hbase, hh, r⟩
    · exact ⟨h.own.1, .inl hn⟩
    · exact ⟨h.own.1, .inr ⟨g', cap', cur, hv, hbase, by rw [hblk g' (by omega)]; exact hh, r⟩⟩

theorem WO.inner {w0 wr : World} {qs : List (Pt × Value)} {i g n cap : Nat} {v : Value} (h : WO w0 qs i wr v) (hi : i < qs.length) (he : qs[i].2 = .slice (some ⟨g, 0, none⟩) n cap) : WI w0 qs i g cap 0 wr v := by
  refine ⟨h.chg, fun j hj _ => h.rows j hj, ?_, h.own⟩
  have hr := h.rows i hi
  rw [he] at hr
  rcases hr with hr | ⟨g', n', cap', e, _, _, hf⟩
  · cases hr
  · simp only [Value.slice.injEq, Option.some.injEq, Addr.mk.injEq] at e
    obtain ⟨⟨rfl, _⟩, rfl, rfl⟩ := e
    simpa using hf

theorem WI.outer {w0 wr : World} {qs : List (Pt × Value)} {i g n cap : Nat} {v : Value} (h : WI w0 qs i g cap cap wr v) (hi : i < qs.length) (he : qs[i].2 = .slice (some ⟨g, 0, none⟩) n cap) (h1 : n ≤ cap) (h2 : cap ≤ 9223372036854775807) :
    Chg (InS qs) w0 wr ∧ (∀ j (h : j < qs.length), SpR wr qs[j].2 (decide (j < i + 1)) j) ∧ wr.ownsRow w0.heap.size 97 1 v i ((qs.take i).map fun q => fullOf q.2) := by
  refine ⟨h.chg, ?_, h.own⟩
  intro j hj
  by_cases hne : j = i
  · subst hne
    rw [he]
    exact .inr ⟨g, n, cap, rfl, h1, h2, by simpa using h.row⟩
  · have e : decide (j < i + 1) = decide (j < i) := by by_cases hh : j < i <;> simp <;> omega
    rw [e]
    exact h.rows j hj hne

theorem WO.app {w0 wr w1 : World} {qs : List (Pt × Value)} {i : Nat} {v v1 : Value} {o : Obj} (hi : i < qs.length) (hc : Chg (InS qs) w0 wr) (hr : ∀ j (h : j < qs.length), SpR wr qs[j].2 (decide (j < i + 1)) j) (ho0 : wr.ownsRow w0.heap.size 97 1 v i ((qs.take i).map fun q => fullOf q.2))
    (hlow : ∀ j (h : j < qs.length) k, qs[j].2.ownBlock = some k → k < w0.heap.size) (hg : (wr.alloc o).grownBy w1 v.ownBlock) (ho : w1.ownsRow w0.heap.size 97 1 v1 (i + 1) (((qs.take i).map fun q => fullOf q.2) ++ [fullOf qs[i].2])) : WO w0 qs (i + 1) w1 v1 := by
  have hrow : ∀ k, v.ownBlock = some k → w0.heap.size ≤ k := fun k hk => (ho0.lt k hk).1
  have hsz := hc.size
  have hblk : ∀ k, k < w0.heap.size → w1.heap[k]? = wr.heap[k]? := fun k hk => by
    rw [hg.block k (by simp; omega) (fun e => by have := hrow k e.symm; omega)]
    exact Below.heap_alloc _ _ _ (by omega)
  refine ⟨⟨hg.os.trans hc.os, hg.tape.trans hc.tape, hg.output.trans hc.output, by have := hg.size; simp at this; omega, fun k hk hn => (hblk k hk).trans (hc.block k hk hn)⟩, ?_, ?_⟩
  · intro j hj
    exact (hr j hj).same (fun k hk => hblk k (hlow j hj k hk))
  · rw [List.take_succ_eq_append_getElem hi, List.map_append]
    exact ho

theorem slices_one (a : Option Addr) (n c : Nat) : ∀ u ∈ [Value.slice a n c], u.oneCell' = true := by simp [Value.oneCell']

end Go.Proofs.YtgkiknfpcbcnnabGreat

namespace Go.Proofs.YtgkiknfpcbcnnabGreat
open Go.RowKit
set_option maxRecDepth 20000

theorem SpR.below {w w' : World} {tv : Value} {d : Bool} {j : Int} (h : SpR w tv d j) (hb : Below w.heap.size w w') : SpR w' tv d j := h.same (fun k hk => hb.block k (h.lt k hk))

end Go.Proofs.YtgkiknfpcbcnnabGreat

namespace Go.Proofs.YtgkiknfpcbcnnabGreat
open Go.RowKit
set_option maxRecDepth 20000

def dS (s : ByteArray) : List Pt := (decS s).getD []
def eS (s : ByteArray) : Int := if (decS s).isSome then 0 else 1

theorem dS_small (s : ByteArray) : (dS s).length ≤ 5 ∧ ∀ p ∈ dS s, p.ts.length ≤ 140737488351232 := by
  unfold dS
  cases h : decS s with
  | none => simp
  | some ps => have := isR_small (decS_sound s ps h).1; exact ⟨this.1, this.2.2⟩

/-- What both decoders answer. -/
def Dec2 (s : ByteArray) (B : Nat) (e : Ending) (w' : World) : Prop :=
  ∃ ao cap qs, e = .returned (.tuple #[.agg #[.slice ao (dS s).length cap], .int .i64 (eS s)]) ∧ qs.map Prod.fst = dS s ∧ RuleAt w' B (.slice ao (dS s).length cap) qs

theorem Dec2.of {s : ByteArray} {B : Nat} {e : Ending} {w' : World} (h : DecPost s B e w') : Dec2 s B e w' := by
  unfold DecPost at h
  unfold Dec2 dS eS
  cases hd : decS s with
  | none =>
    rw [hd] at h
    exact ⟨none, 0, [], h, rfl, RuleAt.nil _ _⟩
  | some ps =>
    rw [hd] at h
    obtain ⟨v, qs, he, hq, hr⟩ := h
    obtain ⟨ao, cap, rfl⟩ := ownsRow_shape hr.parts
    have hl : qs.length = ps.length := by rw [← hq, List.length_map]
    rw [hl] at he hr
    exact ⟨ao, cap, qs, he, hq, hr⟩

theorem flow2 (s : ByteArray) (w : World) (hs : s.size ≤ 140737488351232) : Calls Tryz.prog 28 #[.string s] w fun e w' => Below w.heap.size w w' ∧ Dec2 s w.heap.size e w' :=
  (decode_any s w hs).mono fun _ _ h => ⟨h.1, Dec2.of h.2⟩
theorem RuleAt.reads2 {w : World} {B n : Nat} {ao : Option Addr} {cap : Nat} {qs : List (Pt × Value)} {ps : List Pt} (h : RuleAt w B (.slice ao n cap) qs) (hq : qs.map Prod.fst = ps) (hn : ps.length = n) (hs : ∀ p ∈ ps, p.ts.length ≤ 140737488351232) : PartsIn w ao ps := by
  have hl : qs.length = n := by rw [← hn, ← hq, List.length_map]
  subst hl
  have := h.reads (fun q hq' => hs q.1 (by rw [← hq]; exact List.mem_map_of_mem hq'))
  rwa [hq] at this

/-- The row of parts with its spare room. -/
def PRow (w : World) (ao : Option Addr) (cap m : Nat) : Prop :=
  (ao = none ∧ cap = 0) ∨ ∃ g, ao = some ⟨g, 0, none⟩ ∧ cap ≤ 9223372036854775807 ∧ Full w g 99 cap m (.int .i64 (-9)) (.int .i64 0) (.int .i64 0) (.slice none 0 0)

theorem PRow.of {w : World} {B n n' : Nat} {ao : Option Addr} {cap : Nat} {xs : List Value} (h : w.ownsRow B 99 4 (.slice ao n cap) n' xs) : PRow w ao cap 0 := by
  rcases h.2 with ⟨h, _⟩ | ⟨g, cap', cur, hv, _, hh, _, h2, h3, _⟩
  · simp only [Value.slice.injEq] at h
    exact .inl ⟨h.1, h.2.2⟩
  · simp only [Value.slice.injEq] at hv
    obtain ⟨rfl, _, rfl⟩ := hv
    exact .inr ⟨g, rfl, by unfold maxLen at h2; exact h2, cur, hh, h3, fun k hk => absurd hk (by omega)⟩

theorem PRow.below {w w' : World} {ao : Option Addr} {cap m : Nat} (h : PRow w ao cap m) (hb : Below w.heap.size w w') : PRow w' ao cap m := by
  rcases h with h | ⟨g, h1, h2, h3⟩
  · exact .inl h
  · exact .inr ⟨g, h1, h2, h3.same (hb.block g h3.lt)⟩

def InP (ao : Option Addr) (k : Nat) : Prop := ∃ a, ao = some a ∧ a.block = k

theorem chg_set (w : World) (g o : Nat) (u : Value) : Chg (fun k => k = g) w (w.setCell ⟨g, o, none⟩ u) := Chg.setCell (S := fun k => k = g) w rfl u

theorem RuleAt.own_ge {w : World} {B : Nat} {v : Value} {qs : List (Pt × Value)} (h : RuleAt w B v qs) : ∀ k, InS qs k → B ≤ k ∧ k < w.heap.size := by
  rintro k ⟨q, hq, he⟩
  exact (h.terms q hq).lt k he

end Go.Proofs.YtgkiknfpcbcnnabGreat
