import Derived.Test.YtkdcjcemeipkjaaSeem4
namespace Go.Proofs.Ytkdcjcemeipkjaa
open Go.RowKit
set_option maxRecDepth 20000

theorem spoilt_any (i : Int) (w : World) (h0 : 0 ≤ i) (h1 : i ≤ 1000000) :
    Calls Try.prog 28 #[.int .i64 i] w fun e w' => e = .returned (.agg #[.bool true, .bool true, .int .i64 (-9), .int .i64 (-9 - i)]) ∧ Below w.heap.size w w' := by
  go_enter Try.func28, Try.ntmps28
  go_wp2
  exact bodyPost_ret (v := .agg #[.bool true, .bool true, .int .i64 (-9), .int .i64 (-9 - i)]) (by simp [results, Try.results28, go_sem]) rfl ⟨rfl, below_alloc _ _⟩

theorem spoiltPart_any (w : World) :
    Calls Try.prog 13 #[] w fun e w' => e = .returned (.agg #[.int .i64 (-9), .int .i64 0, .int .i64 0, .slice none 0 0]) ∧ Below w.heap.size w w' := by
  go_enter Try.func13, Try.ntmps13
  go_wp2
  exact bodyPost_ret (v := .agg #[.int .i64 (-9), .int .i64 0, .int .i64 0, .slice none 0 0]) (by simp [results, Try.results13, go_sem]) rfl ⟨rfl, below_alloc _ _⟩

/-- Of the row at block g, of cap records, the first m are a, b, c, d. -/
def Full (w : World) (g : Nat) (T : TypeId) (cap m : Nat) (a b c d : Value) : Prop :=
  ∃ cur : Array Value, w.heap[g]? = some (.cells cur T (0, 0)) ∧ cur.size = cap * 4 ∧ ∀ k, k < m → cur[k * 4]? = some a ∧ cur[k * 4 + 1]? = some b ∧ cur[k * 4 + 2]? = some c ∧ cur[k * 4 + 3]? = some d

theorem setCell_heap {w : World} {g o : Nat} {cur : Array Value} {T : TypeId} {u : Value} (h : w.heap[g]? = some (.cells cur T (0, 0))) : (w.setCell ⟨g, o, none⟩ u).heap[g]? = some (.cells (cur.setIfInBounds o u) T (0, 0)) := by
  simp [World.setCell, Array.getElem?_modify, h]

theorem Full.step {w : World} {g : Nat} {T : TypeId} {cap m : Nat} {a b c d : Value} (h : Full w g T cap m a b c d) (hm : m < cap) :
    Full ((((w.setCell ⟨g, m * 4, none⟩ a).setCell ⟨g, m * 4 + 1, none⟩ b).setCell ⟨g, m * 4 + 2, none⟩ c).setCell ⟨g, m * 4 + 3, none⟩ d) g T cap (m + 1) a b c d := by
  obtain ⟨cur, hh, hs, hf⟩ := h
  refine ⟨_, setCell_heap (setCell_heap (setCell_heap (setCell_heap hh))), by simp [hs], ?_⟩
  intro k hk
  simp only [Array.getElem?_setIfInBounds, Array.size_setIfInBounds, hs]
  by_cases e : k = m
  · subst e
    refine ⟨?_, ?_, ?_, ?_⟩
    · rw [if_neg (by omega), if_neg (by omega), if_neg (by omega), if_pos rfl, if_pos (by omega)]
    · rw [if_neg (by omega), if_neg (by omega), if_pos rfl, if_pos (by omega)]
    · rw [if_neg (by omega), if_pos rfl, if_pos (by omega)]
    · rw [if_pos rfl, if_pos (by omega)]
  · obtain ⟨f0, f1, f2, f3⟩ := hf k (by omega)
    refine ⟨?_, ?_, ?_, ?_⟩
    · rw [if_neg (by omega), if_neg (by omega), if_neg (by omega), if_neg (by omega)]; exact f0
    · rw [if_neg (by omega), if_neg (by omega), if_neg (by omega), if_neg (by omega)]; exact f1
    · rw [if_neg (by omega), if_neg (by omega), if_neg (by omega), if_neg (by omega)]; exact f2
    · rw [if_neg (by omega), if_neg (by omega), if_neg (by omega), if_neg (by omega)]; exact f3

theorem Full.same {w w' : World} {g : Nat} {T : TypeId} {cap m : Nat} {a b c d : Value} (h : Full w g T cap m a b c d) (hb : w'.heap[g]? = w.heap[g]?) : Full w' g T cap m a b c d := by
  obtain ⟨cur, hh, r⟩ := h
  exact ⟨cur, by rw [hb]; exact hh, r⟩

theorem Full.lt {w : World} {g : Nat} {T : TypeId} {cap m : Nat} {a b c d : Value} (h : Full w g T cap m a b c d) : g < w.heap.size := by
  obtain ⟨cur, hh, _⟩ := h; exact lt_of_block hh

/-- The cells of a record that may be anything. -/
theorem Full.some4 {w : World} {g : Nat} {T : TypeId} {cap m : Nat} {a b c d : Value} (h : Full w g T cap m a b c d) (k : Nat) (hk : k < cap) :
    ∃ x y z u, w.cell? ⟨g, k * 4, none⟩ = some x ∧ w.cell? ⟨g, k * 4 + 1, none⟩ = some y ∧ w.cell? ⟨g, k * 4 + 2, none⟩ = some z ∧ w.cell? ⟨g, k * 4 + 3, none⟩ = some u ∧ ∀ o, w.frozen? ⟨g, o, none⟩ = false := by
  obtain ⟨cur, hh, hs, _⟩ := h
  have hc : ∀ o (ho : o < cur.size), w.cell? ⟨g, o, none⟩ = some cur[o] := fun o ho => by rw [cell_of_row w g o cur T (0, 0) hh]; exact Array.getElem?_eq_getElem ho
  exact ⟨_, _, _, _, hc (k * 4) (by omega), hc (k * 4 + 1) (by omega), hc (k * 4 + 2) (by omega), hc (k * 4 + 3) (by omega), fun o => by simp [World.frozen?, hh]⟩

theorem Full.known {w : World} {g : Nat} {T : TypeId} {cap m : Nat} {a b c d : Value} (h : Full w g T cap m a b c d) (k : Nat) (hk : k < m) :
    w.cell? ⟨g, k * 4, none⟩ = some a ∧ w.cell? ⟨g, k * 4 + 1, none⟩ = some b ∧ w.cell? ⟨g, k * 4 + 2, none⟩ = some c ∧ w.cell? ⟨g, k * 4 + 3, none⟩ = some d := by
  obtain ⟨cur, hh, hs, hf⟩ := h
  obtain ⟨f0, f1, f2, f3⟩ := hf k hk
  exact ⟨by rw [cell_of_row w g _ cur T (0, 0) hh]; exact f0, by rw [cell_of_row w g _ cur T (0, 0) hh]; exact f1, by rw [cell_of_row w g _ cur T (0, 0) hh]; exact f2, by rw [cell_of_row w g _ cur T (0, 0) hh]; exact f3⟩

/-- Only blocks of S have turned. -/
structure Chg (S : Nat → Prop) (w w' : World) : Prop where
  os : w'.os = w.os
  tape : w'.tape = w.tape
  output : w'.output = w.output
  size : w.heap.size ≤ w'.heap.size
  block : ∀ k, k < w.heap.size → ¬ S k → w'.heap[k]? = w.heap[k]?

theorem Chg.refl (S : Nat → Prop) (w : World) : Chg S w w := ⟨rfl, rfl, rfl, Nat.le_refl _, fun _ _ _ => rfl⟩
theorem Chg.trans {S : Nat → Prop} {a b c : World} (h : Chg S a b) (k : Chg S b c) : Chg S a c :=
  ⟨k.os.trans h.os, k.tape.trans h.tape, k.output.trans h.output, Nat.le_trans h.size k.size, fun i hi hn => (k.block i (by have := h.size; omega) hn).trans (h.block i hi hn)⟩
theorem Chg.of_below {S : Nat → Prop} {w w' : World} (h : Below w.heap.size w w') : Chg S w w' := ⟨h.os, h.tape, h.output, h.size, fun k hk _ => h.block k hk⟩
theorem Chg.setCell {S : Nat → Prop} (w : World) {p : Addr} (hp : S p.block) (u : Value) : Chg S w (w.setCell p u) :=
  ⟨rfl, rfl, rfl, by simp [World.setCell], fun k _ hn => Below.heap_setCell _ _ _ _ (fun e => hn (by rw [e]; exact hp))⟩
theorem Chg.mono {S S' : Nat → Prop} {w w' : World} (h : Chg S w w') (hs : ∀ k, k < w.heap.size → S k → S' k) : Chg S' w w' := ⟨h.os, h.tape, h.output, h.size, fun k hk hn => h.block k hk (fun hh => hn (hs k hk hh))⟩
theorem Chg.below {S : Nat → Prop} {W w w' : World} {B : Nat} (hb : Below B W w) (h : Chg S w w') (hB : B ≤ w.heap.size) (hs : ∀ k, S k → B ≤ k) : Below B W w' :=
  hb.trans ⟨h.os, h.tape, h.output, h.size, fun k hk => h.block k (by omega) (fun hh => by have := hs k hh; omega)⟩
theorem Chg.cell {S : Nat → Prop} {w w' : World} (h : Chg S w w') {a : Addr} (ha : a.block < w.heap.size) (hn : ¬ S a.block) : w'.cell? a = w.cell? a := World.cell?_of_block (h.block _ ha hn)
end Go.Proofs.Ytkdcjcemeipkjaa
