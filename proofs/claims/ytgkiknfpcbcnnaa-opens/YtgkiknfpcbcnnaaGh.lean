import Derived.Test.YtgkiknfpcbcnnaaGg
namespace Go.Proofs.Ytgkiknfpcbcnnaa
open Go.RowKit
set_option maxRecDepth 20000

theorem spoilt_any (i : Int) (w : World) (h0 : 0 ≤ i) (h1 : i ≤ 1000000) :
    Calls Try.prog 44 #[.int .i64 i] w fun e w' => e = .returned (.agg #[.bool true, .bool true, .int .i64 (-9), .int .i64 (-9 - i)]) ∧ Below w.heap.size w w' := by
  go_enter Try.func44, Try.ntmps44
  go_wp2
  exact bodyPost_ret (v := .agg #[.bool true, .bool true, .int .i64 (-9), .int .i64 (-9 - i)]) (by simp [results, Try.results44, go_sem]) rfl ⟨rfl, below_alloc _ _⟩

theorem spoiltPart_any (w : World) :
    Calls Try.prog 17 #[] w fun e w' => e = .returned (.agg #[.int .i64 (-9), .int .i64 0, .int .i64 0, .slice none 0 0]) ∧ Below w.heap.size w w' := by
  go_enter Try.func17, Try.ntmps17
  go_wp2
  exact bodyPost_ret (v := .agg #[.int .i64 (-9), .int .i64 0, .int .i64 0, .slice none 0 0]) (by simp [results, Try.results17, go_sem]) rfl ⟨rfl, below_alloc _ _⟩

/-- Of the row at block g, of cap records, the first m are a, b, c, d. -/
def Full (w : World) (g : Nat) (T : TypeId) (cap m : Nat) (a b c d : Value) : Prop :=
  ∃ cur : Array Value, w.heap[g]? = some (.cells cur T (0, 0)) ∧ cur.size = cap * 4 ∧ ∀ k, k < m → cur[k * 4]? = some a ∧ cur[k * 4 + 1]? = some b ∧ cur[k * 4 + 2]? = some c ∧ cur[k * 4 + 3]? = some d

theorem setCell_heap {w : World} {g o : Nat} {cur : Array Value} {T : TypeId} {u : Value} (h : w.heap[g]? = some (.cells cur T (0, 0))) : (w.setCell ⟨g, o, none⟩ u).heap[g]? = some (.cells (cur.setIfInBounds o u) T (0, 0)) := by
  simp [World.setCell, Array.getElem?_modify, h]

theorem Full.step {w : World} {g : Nat} {T : TypeId} {cap m : Nat} {a b c d : Value} (h : Full w g T cap m a b c d) (hm : m < cap) :
    Full ((((w.setCell ⟨g, m * 4, none⟩ a).setCell ⟨g, m * 4 + 1, none⟩ b).setCell ⟨g, m * 4 + 2, none⟩ c).setCell ⟨g, m * 4 + 3, none⟩ d) g T cap (m + 1) a b c d := by
  obtain ⟨cur, hh, hs, hf⟩ := h
  refine ⟨_, setCell_heap (setCell_heap (setCell_heap (setCell_heap hh))), by simp [hs], ?_⟩
  intro k hk
  simp only [Array.getElem?_setIfInBounds, Array.size_setIfInBounds, hs]
  by_cases e : k = m
  · subst e
    refine ⟨?_, ?_, ?_, ?_⟩
    · rw [if_neg (by omega), if_neg (by omega), if_neg (by omega), if_pos rfl, if_pos (by omega)]
    · rw [if_neg (by omega), if_neg (by omega), if_pos rfl, if_pos (by omega)]
    · rw [if_neg (by omega), if_pos rfl, if_pos (by omega)]
    · rw [if_pos rfl, if_pos (by omega)]
  · obtain ⟨f0, f1, f2, f3⟩ := hf k (by omega)
    refine ⟨?_, ?_, ?_, ?_⟩
    · rw [if_neg (by omega), if_neg (by omega), if_neg (by omega), if_neg (by omega)]; exact f0
    · rw [if_neg (by omega), if_neg (by omega), if_neg (by omega), if_neg (by omega)]; exact f1
    · rw [if_neg (by omega), if_neg (by omega), if_neg (by omega), if_neg (by omega)]; exact f2
    · rw [if_neg (by omega), if_neg (by omega), if_neg (by omega), if_neg (by omega)]; exact f3

theorem Full.same {w w' : World} {g : Nat} {T : TypeId} {cap m : Nat} {a b c d : Value} (h : Full w g T cap m a b c d) (hb : w'.heap[g]? = w.heap[g]?) : Full w' g T cap m a b c d := by
  obtain ⟨cur, hh, r⟩ := h
  exact ⟨cur, by rw [hb]; exact hh, r⟩

theorem Full.lt {w : World} {g : Nat} {T : TypeId} {cap m : Nat} {a b c d : Value} (h : Full w g T cap m a b c d) : g < w.heap.size := by
  obtain ⟨cur, hh, _⟩ := h; exact lt_of_block hh

/-- The cells of a record that may be anything. -/
theorem Full.some4 {w : World} {g : Nat} {T : TypeId} {cap m : Nat} {a b c d : Value} (h : Full w g T cap m a b c d) (k : Nat) (hk : k < cap) :
    ∃ x y z u, w.cell? ⟨g, k * 4, none⟩ = some x ∧ w.cell? ⟨g, k * 4 + 1, none⟩ = some y ∧ w.cell? ⟨g, k * 4 + 2, none⟩ = some z ∧ w.cell? ⟨g, k * 4 + 3, none⟩ = some u ∧ ∀ o, w.frozen? ⟨g, o, none⟩ = false := by
  obtain ⟨cur, hh, hs, _⟩ := h
  have hc : ∀ o (ho : o < cur.size), w.cell? ⟨g, o, none⟩ = some cur[o] := fun o ho => by rw [cell_of_row w g o cur T (0, 0) hh]; exact Array.getElem?_eq_getElem ho
  exact ⟨_, _, _, _, hc (k * 4) (by omega), hc (k * 4 + 1) (by omega), hc (k * 4 + 2) (by omega), hc (k * 4 + 3) (by omega), fun o => by simp [World.frozen?, hh]⟩

theorem Full.known {w : World} {g : Nat} {T : TypeId} {cap m : Nat} {a b c d : Value} (h : Full w g T cap m a b c d) (k : Nat) (hk : k < m) :
    w.cell? ⟨g, k * 4, none⟩ = some a ∧ w.cell? ⟨g, k * 4 + 1, none⟩ = some b ∧ w.cell? ⟨g, k * 4 + 2, none⟩ = some c ∧ w.cell? ⟨g, k * 4 + 3, none⟩ = some d := by
  obtain ⟨cur, hh, hs, hf⟩ := h
  obtain ⟨f0, f1, f2, f3⟩ := hf k hk
  exact ⟨by rw [cell_of_row w g _ cur T (0, 0) hh]; exact f0, by rw [cell_of_row w g _ cur T (0, 0) hh]; exact f1, by rw [cell_of_row w g _ cur T (0, 0) hh]; exact f2, by rw [cell_of_row w g _ cur T (0, 0) hh]; exact f3⟩

/-- Only blocks of S have turned. -/
structure Chg (S : Nat → Prop) (w w' : World) : Prop where
  os : w'.os = w.os
  tape : w'.tape = w.tape
  output : w'.output = w.output
  size : w.heap.size ≤ w'.heap.size
  block : ∀ k, k < w.heap.size → ¬ S k → w'.heap[k]? = w.heap[k]?

theorem Chg.refl (S : Nat → Prop) (w : World) : Chg S w w := ⟨rfl, rfl, rfl, Nat.le_refl _, fun _ _ _ => rfl⟩
theorem Chg.trans {S : Nat → Prop} {a b c : World} (h : Chg S a b) (k : Chg S b c) : Chg S a c :=
  ⟨k.os.trans h.os, k.tape.trans h.tape, k.output.trans h.output, Nat.le_trans h.size k.size, fun i hi hn => (k.block i (by have := h.size; omega) hn).trans (h.block i hi hn)⟩
theorem Chg.of_below {S : Nat → Prop} {w w' : World} (h : Below w.heap.size w w') : Chg S w w' := ⟨h.os, h.tape, h.output, h.size, fun k hk _ => h.block k hk⟩
theorem Chg.setCell {S : Nat → Prop} (w : World) {p : Addr} (hp : S p.block) (u : Value) : Chg S w (w.setCell p u) :=
  ⟨rfl, rfl, rfl, by simp [World.setCell], fun k _ hn => Below.heap_setCell _ _ _ _ (fun e => hn (by rw [e]; exact hp))⟩
theorem Chg.mono {S S' : Nat → Prop} {w w' : World} (h : Chg S w w') (hs : ∀ k, k < w.heap.size → S k → S' k) : Chg S' w w' := ⟨h.os, h.tape, h.output, h.size, fun k hk hn => h.block k hk (fun hh => hn (hs k hk hh))⟩
theorem Chg.below {S : Nat → Prop} {W w w' : World} {B : Nat} (hb : Below B W w) (h : Chg S w w') (hB : B ≤ w.heap.size) (hs : ∀ k, S k → B ≤ k) : Below B W w' :=
  hb.trans ⟨h.os, h.tape, h.output, h.size, fun k hk => h.block k (by omega) (fun hh => by have := hs k hh; omega)⟩
theorem Chg.cell {S : Nat → Prop} {w w' : World} (h : Chg S w w') {a : Addr} (ha : a.block < w.heap.size) (hn : ¬ S a.block) : w'.cell? a = w.cell? a := World.cell?_of_block (h.block _ ha hn)
end Go.Proofs.Ytgkiknfpcbcnnaa

namespace Go.Proofs.Ytgkiknfpcbcnnaa
open Go.RowKit
set_option maxRecDepth 20000

theorem infoTerms : (Try.prog.info? 33).map (fun i => (i.zero, i.size, i.bytes)) = some (some (.slice none 0 0), 1, 24) := by kernel_rfl

/-- A list of terms with its spare room, written full or not. -/
def SpR (w : World) (tv : Value) (done : Bool) (j : Int) : Prop :=
  tv = .slice none 0 0 ∨ ∃ g n cap, tv = .slice (some ⟨g, 0, none⟩) n cap ∧ n ≤ cap ∧ cap ≤ 9223372036854775807 ∧ Full w g 71 cap (if done then cap else 0) (.bool true) (.bool true) (.int .i64 (-9)) (.int .i64 (-9 - j))

theorem SpR.same {w w' : World} {tv : Value} {d : Bool} {j : Int} (h : SpR w tv d j) (hb : ∀ k, tv.ownBlock = some k → w'.heap[k]? = w.heap[k]?) : SpR w' tv d j := by
  rcases h with h | ⟨g, n, cap, rfl, h1, h2, h3⟩
  · exact .inl h
  · exact .inr ⟨g, n, cap, rfl, h1, h2, h3.same (hb g rfl)⟩

theorem SpR.of_owns {w : World} {B : Nat} {tv : Value} {n : Nat} {xs : List Value} (h : w.ownsRow B 71 4 tv n xs) (j : Int) : SpR w tv false j := by
  rcases h.2 with ⟨h, _⟩ | ⟨g, cap, cur, rfl, _, hh, h1, h2, h3, _⟩
  · exact .inl h
  · exact .inr ⟨g, n, cap, rfl, h1, by unfold maxLen at h2; exact h2, cur, hh, h3, fun k hk => absurd hk (by simp)⟩

theorem SpR.lt {w : World} {tv : Value} {d : Bool} {j : Int} (h : SpR w tv d j) : ∀ k, tv.ownBlock = some k → k < w.heap.size := by
  intro k hk
  rcases h with rfl | ⟨g, n, cap, rfl, _, _, h3⟩
  · simp [Value.ownBlock] at hk
  · simp only [Value.ownBlock, Option.some.injEq] at hk
    subst hk; exact h3.lt

def fullOf : Value → Value
  | .slice a _ c => .slice a c c
  | v => v

def InS (qs : List (Pt × Value)) (k : Nat) : Prop := ∃ q ∈ qs, q.2.ownBlock = some k

/-- Where writeOver's outer loop stands. -/
structure WO (w0 : World) (qs : List (Pt × Value)) (i : Nat) (wr : World) (v : Value) : Prop where
  chg : Chg (InS qs) w0 wr
  rows : ∀ j (h : j < qs.length), SpR wr qs[j].2 (decide (j < i)) j
  own : wr.ownsRow w0.heap.size 33 1 v i ((qs.take i).map fun q => fullOf q.2)

theorem WO.start {w : World} {B : Nat} {v : Value} {qs : List (Pt × Value)} (h : RuleAt w B v qs) : WO w qs 0 w (.slice none 0 0) :=
  ⟨Chg.refl _ _, fun _ hj => SpR.of_owns (h.terms _ (List.getElem_mem hj)) _, World.ownsRow_nil _ _ _ _⟩

/-- Where the inner loop stands. -/
structure WI (w0 : World) (qs : List (Pt × Value)) (i : Nat) (g cap k : Nat) (wr : World) (v : Value) : Prop where
  chg : Chg (InS qs) w0 wr
  rows : ∀ j (h : j < qs.length), j ≠ i → SpR wr qs[j].2 (decide (j < i)) j
  row : Full wr g 71 cap k (.bool true) (.bool true) (.int .i64 (-9)) (.int .i64 (-9 - (i : Int)))
  own : wr.ownsRow w0.heap.size 33 1 v i ((qs.take i).map fun q => fullOf q.2)

theorem apart_get {qs : List (Pt × Value)} (h : qs.Pairwise fun x y => x.2.ownBlock = none ∨ x.2.ownBlock ≠ y.2.ownBlock) {i j : Nat} (hi : i < qs.length) (hj : j < qs.length) (hne : j ≠ i) {g : Nat} (hg : qs[i].2.ownBlock = some g) : qs[j].2.ownBlock ≠ some g := by
  rw [List.pairwise_iff_getElem] at h
  intro he
  rcases Nat.lt_or_gt_of_ne hne with hlt | hgt
  · rcases h j i hj hi hlt with h | h
    · rw [he] at h; cases h
    · exact h (by rw [he, hg])
  · rcases h i j hi hj hgt with h | h
    · rw [hg] at h; cases h
    · exact h (by rw [he, hg])

theorem WI.below {w0 wr w' : World} {qs : List (Pt × Value)} {i g cap k : Nat} {v : Value} (h : WI w0 qs i g cap k wr v) (hb : Below wr.heap.size wr w') : WI w0 qs i g cap k w' v :=
  ⟨h.chg.trans (Chg.of_below hb), fun j hj hne => (h.rows j hj hne).same (fun k hk => hb.block k ((h.rows j hj hne).lt k hk)), h.row.same (hb.block g h.row.lt), ownsRow_below h.own hb⟩

theorem WI.step {w0 wr : World} {qs : List (Pt × Value)} {i g cap k : Nat} {v : Value} (h : WI w0 qs i g cap k wr v) (hk : k < cap) (hi : i < qs.length) (hg : qs[i].2.ownBlock = some g) (hg0 : g < w0.heap.size) (hap : qs.Pairwise fun x y => x.2.ownBlock = none ∨ x.2.ownBlock ≠ y.2.ownBlock) :
    WI w0 qs i g cap (k + 1) ((((wr.setCell ⟨g, k * 4, none⟩ (.bool true)).setCell ⟨g, k * 4 + 1, none⟩ (.bool true)).setCell ⟨g, k * 4 + 2, none⟩ (.int .i64 (-9))).setCell ⟨g, k * 4 + 3, none⟩ (.int .i64 (-9 - (i : Int)))) v := by
  have hS : InS qs g := ⟨qs[i], List.getElem_mem hi, hg⟩
  have hblk : ∀ b, b ≠ g → ((((wr.setCell ⟨g, k * 4, none⟩ (.bool true)).setCell ⟨g, k * 4 + 1, none⟩ (.bool true)).setCell ⟨g, k * 4 + 2, none⟩ (.int .i64 (-9))).setCell ⟨g, k * 4 + 3, none⟩ (.int .i64 (-9 - (i : Int)))).heap[b]? = wr.heap[b]? := fun b hb => by
    rw [Below.heap_setCell _ _ _ _ hb, Below.heap_setCell _ _ _ _ hb, Below.heap_setCell _ _ _ _ hb, Below.heap_setCell _ _ _ _ hb]
  refine ⟨?_, ?_, h.row.step hk, ?_⟩
  · exact (((h.chg.trans (Chg.setCell _ hS _)).trans (Chg.setCell _ hS _)).trans (Chg.setCell _ hS _)).trans (Chg.setCell _ hS _)
  · intro j hj hne
    exact (h.rows j hj hne).same (fun b hb => hblk b (fun e => by subst e; exact apart_get hap hi hj hne hg hb))
  · rcases h.own.2 with hn | ⟨g', cap', cur, hv, hbase, hh, r⟩
    · exact ⟨h.own.1, .inl hn⟩
    · exact ⟨h.own.1, .inr ⟨g', cap', cur, hv, hbase, by rw [hblk g' (by omega)]; exact hh, r⟩⟩

theorem WO.inner {w0 wr : World} {qs : List (Pt × Value)} {i g n cap : Nat} {v : Value} (h : WO w0 qs i wr v) (hi : i < qs.length) (he : qs[i].2 = .slice (some ⟨g, 0, none⟩) n cap) : WI w0 qs i g cap 0 wr v := by
  refine ⟨h.chg, fun j hj _ => h.rows j hj, ?_, h.own⟩
  have hr := h.rows i hi
  rw [he] at hr
  rcases hr with hr | ⟨g', n', cap', e, _, _, hf⟩
  · cases hr
  · simp only [Value.slice.injEq, Option.some.injEq, Addr.mk.injEq] at e
    obtain ⟨⟨rfl, _⟩, rfl, rfl⟩ := e
    simpa using hf

theorem WI.outer {w0 wr : World} {qs : List (Pt × Value)} {i g n cap : Nat} {v : Value} (h : WI w0 qs i g cap cap wr v) (hi : i < qs.length) (he : qs[i].2 = .slice (some ⟨g, 0, none⟩) n cap) (h1 : n ≤ cap) (h2 : cap ≤ 9223372036854775807) :
    Chg (InS qs) w0 wr ∧ (∀ j (h : j < qs.length), SpR wr qs[j].2 (decide (j < i + 1)) j) ∧ wr.ownsRow w0.heap.size 33 1 v i ((qs.take i).map fun q => fullOf q.2) := by
  refine ⟨h.chg, ?_, h.own⟩
  intro j hj
  by_cases hne : j = i
  · subst hne
    rw [he]
    exact .inr ⟨g, n, cap, rfl, h1, h2, by simpa using h.row⟩
  · have e : decide (j < i + 1) = decide (j < i) := by by_cases hh : j < i <;> simp <;> omega
    rw [e]
    exact h.rows j hj hne

theorem WO.app {w0 wr w1 : World} {qs : List (Pt × Value)} {i : Nat} {v v1 : Value} {o : Obj} (hi : i < qs.length) (hc : Chg (InS qs) w0 wr) (hr : ∀ j (h : j < qs.length), SpR wr qs[j].2 (decide (j < i + 1)) j) (ho0 : wr.ownsRow w0.heap.size 33 1 v i ((qs.take i).map fun q => fullOf q.2))
    (hlow : ∀ j (h : j < qs.length) k, qs[j].2.ownBlock = some k → k < w0.heap.size) (hg : (wr.alloc o).grownBy w1 v.ownBlock) (ho : w1.ownsRow w0.heap.size 33 1 v1 (i + 1) (((qs.take i).map fun q => fullOf q.2) ++ [fullOf qs[i].2])) : WO w0 qs (i + 1) w1 v1 := by
  have hrow : ∀ k, v.ownBlock = some k → w0.heap.size ≤ k := fun k hk => (ho0.lt k hk).1
  have hsz := hc.size
  have hblk : ∀ k, k < w0.heap.size → w1.heap[k]? = wr.heap[k]? := fun k hk => by
    rw [hg.block k (by simp; omega) (fun e => by have := hrow k e.symm; omega)]
    exact Below.heap_alloc _ _ _ (by omega)
  refine ⟨⟨hg.os.trans hc.os, hg.tape.trans hc.tape, hg.output.trans hc.output, by have := hg.size; simp at this; omega, fun k hk hn => (hblk k hk).trans (hc.block k hk hn)⟩, ?_, ?_⟩
  · intro j hj
    exact (hr j hj).same (fun k hk => hblk k (hlow j hj k hk))
  · rw [List.take_succ_eq_append_getElem hi, List.map_append]
    exact ho

theorem slices_one (a : Option Addr) (n c : Nat) : ∀ u ∈ [Value.slice a n c], u.oneCell' = true := by simp [Value.oneCell']

set_option maxHeartbeats 3200000 in
theorem writeOver_any (w : World) (B : Nat) (ao : Option Addr) (pc : Nat) (qs : List (Pt × Value)) (h : RuleAt w B (.slice ao qs.length pc) qs) (h5 : qs.length ≤ 5) :
    Calls Try.prog 16 #[.slice ao qs.length pc] w fun e w' => ∃ vo vc, e = .returned (.slice vo qs.length vc) ∧ WO w qs qs.length w' (.slice vo qs.length vc) := by
  obtain ⟨i0, hi, hz0, hz1, hz2⟩ := info_parts infoTerms
  have hlow : ∀ j (hj : j < qs.length) k, qs[j].2.ownBlock = some k → k < w.heap.size := fun j hj k hk => ((h.terms _ (List.getElem_mem hj)).lt k hk).2
  have hpart : ∀ j (hj : j < qs.length), ∃ pg, ao = some ⟨pg, 0, none⟩ ∧ pg < w.heap.size ∧ ¬ InS qs pg ∧ w.cell? ⟨pg, 0 + j * 4 + 3, none⟩ = some qs[j].2 := by
    intro j hj
    rcases h.parts.2 with ⟨_, h0⟩ | ⟨g, cap', cur, hv, _, hh, _⟩
    · omega
    · simp only [Value.slice.injEq] at hv
      obtain ⟨rfl, _, _⟩ := hv
      have := h.parts.cells (g := g) rfl (j * 4 + 3) qs[j].2 (by unfold pcells; rw [flat4_at pcell (fun _ => rfl) qs j hj 3 (by omega)]; rfl)
      rw [add0, ← Nat.add_assoc] at this
      refine ⟨g, rfl, lt_of_block hh, ?_, this⟩
      rintro ⟨q, hq, he⟩
      rcases owns_apart (h.terms q hq) h.parts (by decide) with hx | hx
      · rw [he] at hx; cases hx
      · exact hx (by rw [he]; rfl)
  go_enter Try.func16, Try.ntmps16
  go_wp2
  go_loopw [3, 4] (fun v i wr => ∃ j : Nat, i = .int .i64 j ∧ j ≤ qs.length ∧ WO w qs j wr v) (fun _ i _ => qs.length - (intOf i).toNat)
  case atStart => exact ⟨0, rfl, Nat.zero_le _, WO.start h⟩
  case round =>
    obtain ⟨j, rfl, hj, hwo⟩ := hrel
    obtain ⟨vo, vc, rfl⟩ := ownsRow_shape hwo.own
    by_cases hlt : j < qs.length
    · obtain ⟨pg, rfl, hpg, hpn, hpc⟩ := hpart j hlt
      have c3 : wr.cell? ⟨pg, 0 + j * 4 + 3, none⟩ = some qs[j].2 := (hwo.chg.cell hpg hpn).trans hpc
      rw [Nat.zero_add] at c3
      have hrow := hwo.rows j hlt
      have hap := h.apart
      clear hpart hpc
      rcases hrow with hnil | ⟨g, n, cap, heq, hn, hcap, hfull⟩
      · rw [hnil] at c3
        have y2 : ∀ i (hi : i < qs.length), SpR wr qs[i].2 (decide (i < j + 1)) i := by
          intro i hi
          by_cases hne : i = j
          · subst hne; exact .inl hnil
          · have e : decide (i < j + 1) = decide (i < j) := by by_cases hh : i < j <;> simp <;> omega
            rw [e]; exact hwo.rows i hi
        have y1 := hwo.chg
        have y3 := hwo.own
        have hsz := y1.size
        have HQ : Hid (qs[j].2 = .slice none 0 0) := hnil
        clear hnil hwo h
        go_wp2_with fail
        refine wp_loop_rounds 1 ?_
        rw [rounds_succ]
        go_wp2_with (at_builtin; refine wpList_append_own _ rfl _ _ 29 rfl w.heap.size 33 i0 _ 1 24 Try.underlying29 hi hz0 hz1 hz2 rfl (by decide) _ _ _ rfl (y3.alloc _) ⟨wr.heap.size, 0, none⟩ 1 1 [.slice none 0 0] rfl rfl (cell_one_new _ _ _ _ rfl) (slices_one _ _ _) (by unfold maxLen; omega) (by omega) (by simp; omega) ?_; intro v1 w1 ho hg1 _)
        have hwo2 : WO w qs (j + 1) w1 v1 := WO.app hlt y1 y2 y3 hlow hg1 (by rw [HQ.out]; exact ho)
        clear y1 y2 y3 hg1
        go_roundw
        case rel => exact ⟨j + 1, by go_num, by omega, hwo2⟩
        case measure => simp [intOf]; omega
      · rw [heq] at c3
        have hwi := hwo.inner hlt heq
        have hg : qs[j].2.ownBlock = some g := by rw [heq]; rfl
        have hg0 := hlow j hlt g hg
        have HQ : Hid (qs[j].2 = .slice (some ⟨g, 0, none⟩) n cap) := heq
        clear heq hwo hfull h
        go_wp2_with fail
        go_loopw [7] (fun k w2 => ∃ m : Nat, k = .int .i64 m ∧ m ≤ cap ∧ WI w qs j g cap m w2 (.slice vo j vc)) (fun k _ => cap - (intOf k).toNat)
        case atStart => exact ⟨0, rfl, Nat.zero_le _, hwi⟩
        case round =>
          obtain ⟨m, rfl, hm, hwi2⟩ := hrel
          clear hwi c3
          by_cases hmc : m < cap
          · go_wp2_with (go_at_call 44; refine (spoilt_any _ _ (by omega) (by omega)).mono ?_; rintro e w3 ⟨rfl, hb3⟩; have hwi3 := hwi2.below hb3; obtain ⟨x, y, z, u, x0, x1, x2, x3, xf⟩ := hwi3.row.some4 m hmc)
            go_roundw
            case rel => exact ⟨m + 1, by go_num, by omega, hwi3.step hmc hlt hg hg0 hap⟩
            case measure => simp [intOf]; omega
          · have e : m = cap := by omega
            subst e
            obtain ⟨y1, y2, y3⟩ := hwi2.outer hlt HQ.out hn hcap
            have hsz := y1.size
            clear hwi2
            go_wp2_with (at_builtin; refine wpList_append_own _ rfl _ _ 29 rfl w.heap.size 33 i0 _ 1 24 Try.underlying29 hi hz0 hz1 hz2 rfl (by decide) _ _ _ rfl (y3.alloc _) ⟨wr.heap.size, 0, none⟩ 1 1 [.slice (some ⟨g, 0, none⟩) m m] rfl rfl (cell_one_new _ _ _ _ rfl) (slices_one _ _ _) (by unfold maxLen; omega) (by omega) (by simp; omega) ?_; intro v1 w1 ho hg1 _)
            have hwo2 : WO w qs (j + 1) w1 v1 := WO.app hlt y1 y2 y3 hlow hg1 (by rw [HQ.out]; exact ho)
            clear y1 y2 y3 hg1
            go_roundw
            case rel => exact ⟨j + 1, by go_num, by omega, hwo2⟩
            case measure => simp [intOf]; omega
    · have e : j = qs.length := by omega
      subst e
      clear hpart
      go_wp2
      go_ret
      exact ⟨vo, vc, rfl, hwo⟩
end Go.Proofs.Ytgkiknfpcbcnnaa

namespace Go.Proofs.Ytgkiknfpcbcnnaa
open Go.RowKit
set_option maxRecDepth 20000

theorem SpR.below {w w' : World} {tv : Value} {d : Bool} {j : Int} (h : SpR w tv d j) (hb : Below w.heap.size w w') : SpR w' tv d j := h.same (fun k hk => hb.block k (h.lt k hk))

set_option maxHeartbeats 3200000 in
theorem over_any (w : World) (B : Nat) (vo : Option Addr) (vc : Nat) (qs : List (Pt × Value)) (hown : w.ownsRow B 33 1 (.slice vo qs.length vc) qs.length (qs.map fun q => fullOf q.2)) (hrows : ∀ j (h : j < qs.length), SpR w qs[j].2 true j) (h5 : qs.length ≤ 5) :
    Calls Try.prog 18 #[.slice vo qs.length vc] w fun e w' => e = .returned (.bool true) ∧ Below w.heap.size w w' := by
  have hout : ∀ j (hj : j < qs.length), ∃ og, vo = some ⟨og, 0, none⟩ ∧ og < w.heap.size ∧ w.cell? ⟨og, 0 + j, none⟩ = some (fullOf qs[j].2) := by
    intro j hj
    rcases hown.2 with ⟨_, h0⟩ | ⟨g, cap', cur, hv, _, hh, _⟩
    · omega
    · simp only [Value.slice.injEq] at hv
      obtain ⟨rfl, _, _⟩ := hv
      have := hown.cells (g := g) rfl j (fullOf qs[j].2) (by rw [List.getElem?_map, List.getElem?_eq_getElem hj]; rfl)
      rw [add0] at this
      exact ⟨g, rfl, lt_of_block hh, this⟩
  clear hown
  go_enter Try.func18, Try.ntmps18
  go_wp2
  go_loopw [3] (fun i wr => ∃ j : Nat, i = .int .i64 j ∧ j ≤ qs.length ∧ Below w.heap.size w wr) (fun i _ => qs.length - (intOf i).toNat)
  case atStart => exact ⟨0, rfl, Nat.zero_le _, Below.refl _ _⟩
  case round =>
    obtain ⟨j, rfl, hj, hbel⟩ := hrel
    by_cases hlt : j < qs.length
    · obtain ⟨og, rfl, hog, hoc⟩ := hout j hlt
      rw [Nat.zero_add] at hoc
      have hrow := (hrows j hlt).below hbel
      have hz := hbel.size
      have c0 : wr.cell? ⟨og, j, none⟩ = some (fullOf qs[j].2) := (hbel.cell hog).trans hoc
      clear hout hrows hoc
      generalize qs[j].2 = tv at *
      rcases hrow with rfl | ⟨g, n, cap, rfl, hn, hcap, hfull⟩
      · simp only [fullOf] at c0
        go_wp2_with (go_at_call 44; refine (spoilt_any _ _ (by omega) (by omega)).mono ?_; rintro e w3 ⟨rfl, hb3⟩; have c3 : w3.cell? ⟨og, j, none⟩ = some (.slice none 0 0) := (hb3.cell (by show og < _; omega)).trans c0; have z3 : og < w3.heap.size := (by have := hb3.size; omega))
        refine wp_loop_rounds 1 ?_
        rw [rounds_succ]
        go_wp2
        go_roundw
        case rel => exact ⟨j + 1, by go_num, by omega, (hbel.trans (hb3.mono hz)).alloc (by have := hb3.size; omega) _⟩
        case measure => simp [intOf]; omega
      · simp only [fullOf] at c0
        go_wp2_with (go_at_call 44; refine (spoilt_any _ _ (by omega) (by omega)).mono ?_; rintro e w3 ⟨rfl, hb3⟩; have c3 : w3.cell? ⟨og, j, none⟩ = some (.slice (some ⟨g, 0, none⟩) cap cap) := (hb3.cell (by show og < _; omega)).trans c0; have z3 : og < w3.heap.size := (by have := hb3.size; omega))
        have hf3 := (hfull.same (hb3.block g hfull.lt))
        have zg := hf3.lt
        simp only [if_true] at hf3
        go_loopw [5] (fun k w2 => ∃ m x : Nat, k = .int .i64 m ∧ m ≤ cap ∧ w2 = (w3.alloc (.cells #[.bool true, .bool true, .int .i64 (-9), .int .i64 (-9 - (j : Int))] 71)).drewN x) (fun k _ => cap - (intOf k).toNat)
        case atStart => exact ⟨0, 0, rfl, Nat.zero_le _, rfl⟩
        case round =>
          obtain ⟨m, x, rfl, hm, rfl⟩ := hrel
          by_cases hmc : m < cap
          · obtain ⟨d0, d1, d2, d3⟩ := hf3.known m hmc
            clear hfull hf3
            go_wp2_with fail
            go_quiet (fail)
            go_wp2
            go_roundw
            case rel => exact ⟨m + 1, _, by go_num, by omega, rfl⟩
            case measure => simp [intOf]; omega
          · clear hfull hf3
            go_wp2
            go_roundw
            case rel => exact ⟨j + 1, by go_num, by omega, below_drewN ((hbel.trans (hb3.mono hz)).alloc (by have := hb3.size; omega) _) _⟩
            case measure => simp [intOf]; omega
    · clear hout hrows
      go_wp2
      go_ret
      exact ⟨rfl, hbel⟩
end Go.Proofs.Ytgkiknfpcbcnnaa

namespace Go.Proofs.Ytgkiknfpcbcnnaa
open Go.RowKit
set_option maxRecDepth 20000

def dS (s : ByteArray) : List Pt := (decS s).getD []
def eS (s : ByteArray) : Int := if (decS s).isSome then 0 else 1

theorem dS_small (s : ByteArray) : (dS s).length ≤ 5 ∧ ∀ p ∈ dS s, p.ts.length ≤ 140737488351232 := by
  unfold dS
  cases h : decS s with
  | none => simp
  | some ps => have := isR_small (decS_sound s ps h).1; exact ⟨this.1, this.2.2⟩

/-- What both decoders answer. -/
def Dec2 (s : ByteArray) (B : Nat) (e : Ending) (w' : World) : Prop :=
  ∃ ao cap qs, e = .returned (.tuple #[.agg #[.slice ao (dS s).length cap], .int .i64 (eS s)]) ∧ qs.map Prod.fst = dS s ∧ RuleAt w' B (.slice ao (dS s).length cap) qs

theorem Dec2.of {s : ByteArray} {B : Nat} {e : Ending} {w' : World} (h : DecPost s B e w') : Dec2 s B e w' := by
  unfold DecPost at h
  unfold Dec2 dS eS
  cases hd : decS s with
  | none =>
    rw [hd] at h
    exact ⟨none, 0, [], h, rfl, RuleAt.nil _ _⟩
  | some ps =>
    rw [hd] at h
    obtain ⟨v, qs, he, hq, hr⟩ := h
    obtain ⟨ao, cap, rfl⟩ := ownsRow_shape hr.parts
    have hl : qs.length = ps.length := by rw [← hq, List.length_map]
    rw [hl] at he hr
    exact ⟨ao, cap, qs, he, hq, hr⟩

theorem flow2 (s : ByteArray) (w : World) (hs : s.size ≤ 140737488351232) : Calls Try.prog 14 #[.string s] w fun e w' => Below w.heap.size w w' ∧ Dec2 s w.heap.size e w' :=
  (decode_any s w hs).mono fun _ _ h => ⟨h.1, Dec2.of h.2⟩
theorem ref2 (s : ByteArray) (w : World) (hs : s.size ≤ 140737488351232) : Calls Try.prog 13 #[.string s] w fun e w' => Below w.heap.size w w' ∧ Dec2 s w.heap.size e w' :=
  (refDecode_any s w hs).mono fun _ _ h => ⟨h.1, Dec2.of h.2⟩

theorem writeOver2 (w : World) (B : Nat) (ao : Option Addr) (pc n : Nat) (qs : List (Pt × Value)) (hn : qs.length = n) (h : RuleAt w B (.slice ao n pc) qs) (h5 : n ≤ 5) :
    Calls Try.prog 16 #[.slice ao n pc] w fun e w' => ∃ vo vc, e = .returned (.slice vo n vc) ∧ WO w qs n w' (.slice vo n vc) := by
  subst hn; exact writeOver_any w B ao pc qs h h5

theorem over2 (w : World) (B : Nat) (vo : Option Addr) (vc n : Nat) (qs : List (Pt × Value)) (hn : qs.length = n) (hown : w.ownsRow B 33 1 (.slice vo n vc) n (qs.map fun q => fullOf q.2)) (hrows : ∀ j (h : j < qs.length), SpR w qs[j].2 true j) (h5 : n ≤ 5) :
    Calls Try.prog 18 #[.slice vo n vc] w fun e w' => e = .returned (.bool true) ∧ Below w.heap.size w w' := by
  subst hn; exact over_any w B vo vc qs hown hrows h5

theorem RuleAt.reads2 {w : World} {B n : Nat} {ao : Option Addr} {cap : Nat} {qs : List (Pt × Value)} {ps : List Pt} (h : RuleAt w B (.slice ao n cap) qs) (hq : qs.map Prod.fst = ps) (hn : ps.length = n) (hs : ∀ p ∈ ps, p.ts.length ≤ 140737488351232) : PartsIn w ao ps := by
  have hl : qs.length = n := by rw [← hn, ← hq, List.length_map]
  subst hl
  have := h.reads (fun q hq' => hs q.1 (by rw [← hq]; exact List.mem_map_of_mem hq'))
  rwa [hq] at this

/-- The row of parts with its spare room. -/
def PRow (w : World) (ao : Option Addr) (cap m : Nat) : Prop :=
  (ao = none ∧ cap = 0) ∨ ∃ g, ao = some ⟨g, 0, none⟩ ∧ cap ≤ 9223372036854775807 ∧ Full w g 35 cap m (.int .i64 (-9)) (.int .i64 0) (.int .i64 0) (.slice none 0 0)

theorem PRow.of {w : World} {B n n' : Nat} {ao : Option Addr} {cap : Nat} {xs : List Value} (h : w.ownsRow B 35 4 (.slice ao n cap) n' xs) : PRow w ao cap 0 := by
  rcases h.2 with ⟨h, _⟩ | ⟨g, cap', cur, hv, _, hh, _, h2, h3, _⟩
  · simp only [Value.slice.injEq] at h
    exact .inl ⟨h.1, h.2.2⟩
  · simp only [Value.slice.injEq] at hv
    obtain ⟨rfl, _, rfl⟩ := hv
    exact .inr ⟨g, rfl, by unfold maxLen at h2; exact h2, cur, hh, h3, fun k hk => absurd hk (by omega)⟩

theorem PRow.below {w w' : World} {ao : Option Addr} {cap m : Nat} (h : PRow w ao cap m) (hb : Below w.heap.size w w') : PRow w' ao cap m := by
  rcases h with h | ⟨g, h1, h2, h3⟩
  · exact .inl h
  · exact .inr ⟨g, h1, h2, h3.same (hb.block g h3.lt)⟩

def InP (ao : Option Addr) (k : Nat) : Prop := ∃ a, ao = some a ∧ a.block = k

theorem chg_set (w : World) (g o : Nat) (u : Value) : Chg (fun k => k = g) w (w.setCell ⟨g, o, none⟩ u) := Chg.setCell (S := fun k => k = g) w rfl u

theorem RuleAt.own_ge {w : World} {B : Nat} {v : Value} {qs : List (Pt × Value)} (h : RuleAt w B v qs) : ∀ k, InS qs k → B ≤ k ∧ k < w.heap.size := by
  rintro k ⟨q, hq, he⟩
  exact (h.terms q hq).lt k he

set_option maxHeartbeats 1000000 in
theorem decodes_any (s : ByteArray) (w : World) (hs : s.size ≤ 140737488351232) :
    Calls Try.prog 3 #[.string s] w fun e w' => e = .returned (.bool true) ∧ Below w.heap.size w w' := by
  obtain ⟨d5, dts⟩ := dS_small s
  have hne : (eS s == eS s) = true := by simp
  go_enter Try.func3, Try.ntmps3
  go_wp2_with fail
  refine (ref2 s _ hs).mono ?_
  rintro e w1 ⟨hb1, ao1, cap1, qs1, rfl, hq1, hr1⟩
  have hp1 := hr1.reads2 hq1 rfl dts
  go_wp2_with fail
  refine (flow2 s _ hs).mono ?_
  rintro e w2 ⟨hb2, ao2, cap2, qs2, rfl, hq2, hr2⟩
  have hp2 := hr2.reads2 hq2 rfl dts
  have hl2 : qs2.length = (dS s).length := by rw [← hq2, List.length_map]
  -- the variable 'want' stands at w1.heap.size
  have k1 : w2.cell? ⟨w1.heap.size, 0, none⟩ = some (.slice ao1 (dS s).length cap1) := (hb2.cell (by simp)).trans (by simp [go_sem])
  have z2 := hb2.size
  simp only [World.size_alloc] at z2
  have z1 : w1.heap.size < w2.heap.size := by omega
  have hA := (hp1.below (below_alloc _ _)).below hb2
  go_wp2_with fail
  refine (sameParts_eq (dS s) ao2 ao1 cap2 cap1 _ (by omega) (hp2.below (below_alloc _ _)) (hA.below (below_alloc _ _))).mono ?_
  rintro e w3 ⟨rfl, n3, rfl⟩
  go_wp2_with fail
  refine (writeOver2 _ _ ao2 cap2 (dS s).length qs2 hl2 ((hr2.below (below_alloc _ _)).below (below_drewN (Below.refl _ _) n3)) (by omega)).mono ?_
  rintro e w4 ⟨vo, vc, rfl, hwo⟩
  have zs4 := hwo.chg.size
  have zs4' : w2.heap.size + 1 ≤ w4.heap.size := by simpa using zs4
  have hS : ∀ k, InS qs2 k → w1.heap.size + 1 ≤ k ∧ k < w2.heap.size := fun k hk => by have := hr2.own_ge k hk; simpa using this
  have k5r : w4.cell? ⟨w2.heap.size, 0, none⟩ = some (.slice ao2 (dS s).length cap2) := (hwo.chg.cell (by simp) (fun hh => by have := hS w2.heap.size hh; omega)).trans (by simp [go_sem])
  have k4 : w4.cell? ⟨w1.heap.size, 0, none⟩ = some (.slice ao1 (dS s).length cap1) := (hwo.chg.cell (by simp; omega) (fun hh => by have := hS w1.heap.size hh; omega)).trans (by rw [World.cell?_drewN, (below_alloc w2 _).cell (by exact z1)]; exact k1)
  have bel4 : Below w1.heap.size w1 w4 := Chg.below (below_drewN (((below_first hb2).alloc (by omega) _)) n3) hwo.chg (by simp; omega) (fun k hk => by have := hS k hk; omega)
  have zw : w.heap.size ≤ w1.heap.size := hb1.size
  have hpr2 : PRow w2 ao2 cap2 0 := PRow.of hr2.parts
  have own4 := hwo.own
  rw [List.take_of_length_le (by omega)] at own4
  have rows4 : ∀ j (hj : j < qs2.length), SpR w4 qs2[j].2 true j := fun j hj => by
    have := hwo.rows j hj
    rwa [decide_eq_true (by omega)] at this
  have hlowS : ∀ j (hj : j < qs2.length) k, qs2[j].2.ownBlock = some k → InS qs2 k := fun j hj k hk => ⟨qs2[j], List.getElem_mem hj, hk⟩
  rcases hpr2 with ⟨rfl, rfl⟩ | ⟨pg, rfl, hcap, hfull⟩
  · have prow5 : PRow w4 none 0 0 := .inl ⟨rfl, rfl⟩
    obtain ⟨w5, hw5⟩ : ∃ w5, w5 = w4 := ⟨w4, rfl⟩
    subst hw5
    have k5 := k4
    have bel5 := bel4
    have own5 := own4
    have rows5 := rows4
    clear hwo hr2 hp2 hA hb2 hr1 own4 rows4 bel4 hS hlowS k1 k4
    go_wp2_with fail
    refine wp_loop_rounds 1 ?_
    rw [rounds_succ]
    go_wp2_with fail
    refine (flow2 s _ hs).mono ?_
    rintro e w6 ⟨hb6, ao3, cap3, qs3, rfl, hq3, hr3⟩
    have hp3 := hr3.reads2 hq3 rfl dts
    have k6 : w6.cell? ⟨w1.heap.size, 0, none⟩ = some (.slice ao1 (dS s).length cap1) := (hb6.cell (by show w1.heap.size < _; omega)).trans k5
    have z6 := hb6.size
    have z61 : w1.heap.size < w6.heap.size := by omega
    have hA6 := (hp1.below bel5).below hb6
    go_wp2_with fail
    refine (sameParts_eq (dS s) ao3 ao1 cap3 cap1 _ (by omega) (hp3.below (below_alloc _ _)) (hA6.below (below_alloc _ _))).mono ?_
    rintro e w7 ⟨rfl, n7, rfl⟩
    have bel7 : Below w5.heap.size w5 ((w6.alloc (.cells #[.slice ao3 (dS s).length cap3] 24)).drewN n7) := below_drewN (hb6.alloc (by omega) _) _
    go_wp2_with fail
    refine (over2 _ _ vo vc (dS s).length qs2 hl2 (ownsRow_below own5 bel7) (fun j hj => (rows5 j hj).below bel7) (by omega)).mono ?_
    rintro e w8 ⟨rfl, hb8⟩
    have bel8 : Below w5.heap.size w5 w8 := bel7.trans (hb8.mono bel7.size)
    have belF : Below w.heap.size w w8 := (hb1.trans (bel5.mono zw)).trans (bel8.mono (by omega))
    have hf8 := prow5.below bel8
    clear hb6 hb8 hr3 hp3 hA6 hq3 own5 rows5 prow5 bel7 bel8 bel5 k5
    go_wp2_with fail
    refine wp_loop_rounds 1 ?_
    rw [rounds_succ]
    go_wp2
    go_ret
    exact ⟨rfl, belF⟩
  · have hpS : ¬ InS qs2 pg := by
      rintro ⟨q, hq, he⟩
      rcases owns_apart (hr2.terms q hq) hr2.parts (by decide) with hx | hx
      · rw [he] at hx; cases hx
      · exact hx (by rw [he]; rfl)
    have hpg := hfull.lt
    have hpgl : w1.heap.size + 1 ≤ pg := by have := (hr2.parts.lt pg rfl).1; simpa using this
    have hf4 : Full w4 pg 35 cap2 0 (.int .i64 (-9)) (.int .i64 0) (.int .i64 0) (.slice none 0 0) := hfull.same (by
      rw [hwo.chg.block pg (by simp; omega) hpS]
      show (w2.alloc _).heap[pg]? = _
      exact Below.heap_alloc _ _ _ hpg)
    go_wp2_with fail
    go_loopw [10] (fun i wr => ∃ m : Nat, i = .int .i64 m ∧ m ≤ cap2 ∧ Full wr pg 35 cap2 m (.int .i64 (-9)) (.int .i64 0) (.int .i64 0) (.slice none 0 0) ∧ Chg (fun k => k = pg) w4 wr) (fun i _ => cap2 - (intOf i).toNat)
    case atStart => exact ⟨0, rfl, Nat.zero_le _, hf4, Chg.refl _ _⟩
    case round =>
      obtain ⟨m, rfl, hm, hfw, hcw⟩ := hrel
      by_cases hmc : m < cap2
      · clear hwo hr2 hp2 hA hb2 hr1 own4 rows4 bel4 hS hlowS k1 k4 k5r hf4 hfull hp1 hb1
        go_wp2_with (go_at_call 17; refine (spoiltPart_any _).mono ?_; rintro e w5 ⟨rfl, hb5⟩; have hf5 := hfw.same (hb5.block pg hfw.lt); obtain ⟨x, y, z, u, x0, x1, x2, x3, xf⟩ := hf5.some4 m hmc)
        go_roundw
        case rel => exact ⟨m + 1, by go_num, by omega, hf5.step hmc, ((((hcw.trans (Chg.of_below hb5)).trans (chg_set _ _ _ _)).trans (chg_set _ _ _ _)).trans (chg_set _ _ _ _)).trans (chg_set _ _ _ _)⟩
        case measure => simp [intOf]; omega
      · have e : m = cap2 := by omega
        subst e
        obtain ⟨w5, hw5⟩ : ∃ w5, w5 = wr := ⟨wr, rfl⟩
        subst hw5
        have z45 := hcw.size
        have prow5 : PRow w5 (some ⟨pg, 0, none⟩) m m := .inr ⟨pg, rfl, hcap, hfw⟩
        have k5 : w5.cell? ⟨w1.heap.size, 0, none⟩ = some (.slice ao1 (dS s).length cap1) := (hcw.cell (by show w1.heap.size < _; omega) (by show ¬ w1.heap.size = pg; omega)).trans k4
        have bel5 : Below w1.heap.size w1 w5 := Chg.below bel4 hcw (by omega) (fun k hk => by omega)
        have rows5 : ∀ j (hj : j < qs2.length), SpR w5 qs2[j].2 true j := fun j hj => (rows4 j hj).same (fun k hk => hcw.block k ((rows4 j hj).lt k hk) (fun e => hpS (e ▸ hlowS j hj k hk)))
        have own5 : w5.ownsRow (w2.heap.size + 1) 33 1 (.slice vo (dS s).length vc) (dS s).length (qs2.map fun q => fullOf q.2) := by
          refine ⟨own4.1, ?_⟩
          rcases own4.2 with hx | ⟨g', c', cur, hv, hbase, hh, r⟩
          · exact .inl hx
          · have hbase' : w2.heap.size + 1 ≤ g' := by simpa using hbase
            exact .inr ⟨g', c', cur, hv, hbase', by rw [hcw.block g' (lt_of_block hh) (by show ¬ g' = pg; omega)]; exact hh, r⟩
        clear hwo hr2 hp2 hA hb2 hr1 own4 rows4 bel4 hS hlowS k1 k4 k5r hf4 hfull hcw hfw
        go_wp2_with fail
        refine (flow2 s _ hs).mono ?_
        rintro e w6 ⟨hb6, ao3, cap3, qs3, rfl, hq3, hr3⟩
        have hp3 := hr3.reads2 hq3 rfl dts
        have k6 : w6.cell? ⟨w1.heap.size, 0, none⟩ = some (.slice ao1 (dS s).length cap1) := (hb6.cell (by show w1.heap.size < _; omega)).trans k5
        have z6 := hb6.size
        have z61 : w1.heap.size < w6.heap.size := by omega
        have hA6 := (hp1.below bel5).below hb6
        go_wp2_with fail
        refine (sameParts_eq (dS s) ao3 ao1 cap3 cap1 _ (by omega) (hp3.below (below_alloc _ _)) (hA6.below (below_alloc _ _))).mono ?_
        rintro e w7 ⟨rfl, n7, rfl⟩
        have bel7 : Below w5.heap.size w5 ((w6.alloc (.cells #[.slice ao3 (dS s).length cap3] 24)).drewN n7) := below_drewN (hb6.alloc (by omega) _) _
        go_wp2_with fail
        refine (over2 _ _ vo vc (dS s).length qs2 hl2 (ownsRow_below own5 bel7) (fun j hj => (rows5 j hj).below bel7) (by omega)).mono ?_
        rintro e w8 ⟨rfl, hb8⟩
        have bel8 : Below w5.heap.size w5 w8 := bel7.trans (hb8.mono bel7.size)
        have belF : Below w.heap.size w w8 := (hb1.trans (bel5.mono zw)).trans (bel8.mono (by omega))
        have hf8 := prow5.below bel8
        clear hb6 hb8 hr3 hp3 hA6 hq3 own5 rows5 prow5 bel7 bel8 bel5 k5
        go_wp2_with fail
        rcases hf8 with hx | ⟨g, hge, _, hf⟩
        · simp at hx
        · simp only [Option.some.injEq, Addr.mk.injEq] at hge
          obtain ⟨rfl, _⟩ := hge
          go_loop [13, 14] (fun h i => h = .bool true ∧ ∃ q : Nat, i = .int .i64 q ∧ q ≤ m) (fun _ i => m - (intOf i).toNat)
          case atStart => exact ⟨rfl, 0, rfl, Nat.zero_le _⟩
          case round =>
            obtain ⟨rfl, q, rfl, hq⟩ := hrel
            by_cases hqm : q < m
            · obtain ⟨y0, _, _, _⟩ := hf.known q hqm
              go_wp2
              go_round
              case rel => exact ⟨rfl, q + 1, by go_num, by omega⟩
              case measure => simp [intOf]; omega
            · go_wp2
              go_ret
              exact ⟨rfl, belF⟩
end Go.Proofs.Ytgkiknfpcbcnnaa
