import Derived.Test.YtgkiknfpcbcnnabGreatGp
namespace Go.Proofs.YtgkiknfpcbcnnabGreat
open Go.RowKit
set_option maxRecDepth 20000

/-- Texts lie at ao. -/
def StrIn (w : World) (ao : Option Addr) (L : List ByteArray) : Prop := ∀ i (h : i < L.length), ∃ g, ao = some ⟨g, 0, none⟩ ∧ w.cell? ⟨g, i, none⟩ = some (.string L[i])
theorem StrRow.reads {w : World} {B c : Nat} {ao : Option Addr} {L : List ByteArray} (h : StrRow w B (.slice ao L.length c) L) : StrIn w ao L := by
  intro i hi
  obtain ⟨g, e, _, hc⟩ := row_some' h (by omega)
  exact ⟨g, e, hc i hi⟩
theorem StrIn.below {w w' : World} {ao : Option Addr} {L : List ByteArray} (h : StrIn w ao L) (hb : Below w.heap.size w w') : StrIn w' ao L := by
  intro i hi
  obtain ⟨g, e, hc⟩ := h i hi
  exact ⟨g, e, by rw [hb.cell (World.block_lt_of_cell? w _ hc)]; exact hc⟩

theorem map_bl_inj : ∀ {L M : List ByteArray}, L.map bl = M.map bl → L = M := by
  intro L
  induction L with
  | nil => intro M h; cases M with
    | nil => rfl
    | cons a M => simp at h
  | cons a L ih => intro M h; cases M with
    | nil => simp at h
    | cons b M =>
      simp only [List.map_cons, List.cons.injEq] at h
      rw [bl_inj h.1, ih h.2]

def markB : ByteArray := ⟨#[116, 104, 101, 32, 99, 97, 108, 108, 101, 114, 39, 115]⟩

/-- Of the row of cap texts at block g the first m are the caller's. -/
def MRow (w : World) (g cap m : Nat) : Prop := ∃ cur : Array Value, w.heap[g]? = some (.cells cur 9 (0, 0)) ∧ cur.size = cap ∧ ∀ k, k < m → cur[k]? = some (.string markB)
theorem MRow.same {w w' : World} {g cap m : Nat} (h : MRow w g cap m) (hb : w'.heap[g]? = w.heap[g]?) : MRow w' g cap m := by
  obtain ⟨cur, hh, r⟩ := h
  exact ⟨cur, by rw [hb]; exact hh, r⟩
theorem MRow.lt {w : World} {g cap m : Nat} (h : MRow w g cap m) : g < w.heap.size := by
  obtain ⟨cur, hh, _⟩ := h; exact lt_of_block hh
theorem MRow.step {w : World} {g cap m : Nat} (h : MRow w g cap m) (hm : m < cap) : MRow (w.setCell ⟨g, m, none⟩ (.string markB)) g cap (m + 1) := by
  obtain ⟨cur, hh, hs, hf⟩ := h
  refine ⟨_, setCell_heap hh, by simp [hs], ?_⟩
  intro k hk
  simp only [Array.getElem?_setIfInBounds, hs]
  by_cases e : k = m
  · subst e; rw [if_pos rfl, if_pos hm]
  · rw [if_neg (by omega)]; exact hf k (by omega)
theorem MRow.some1 {w : World} {g cap m : Nat} (h : MRow w g cap m) (k : Nat) (hk : k < cap) : ∃ x, w.cell? ⟨g, k, none⟩ = some x ∧ w.frozen? ⟨g, k, none⟩ = false := by
  obtain ⟨cur, hh, hs, _⟩ := h
  exact ⟨cur[k]'(by omega), by rw [cell_of_row w g k cur _ (0, 0) hh]; exact Array.getElem?_eq_getElem (by omega), by simp [World.frozen?, hh]⟩
theorem MRow.known {w : World} {g cap m : Nat} (h : MRow w g cap m) (k : Nat) (hk : k < m) : w.cell? ⟨g, k, none⟩ = some (.string markB) := by
  obtain ⟨cur, hh, hs, hf⟩ := h
  rw [cell_of_row w g k cur _ (0, 0) hh]; exact hf k hk
end Go.Proofs.YtgkiknfpcbcnnabGreat
