import Derived.Test.YtgkiknfpcbcnnaaGac
import Derived.Test.YtgkiknfpcbcnnaaGae
namespace Go.Proofs.Ytgkiknfpcbcnnaa
open Go.RowKit
set_option maxRecDepth 20000

theorem rtIn_of {w : World} {B : Nat} {e : TypeId} {ao : Option Addr} {n c : Nat} {l : List Rt} (h : w.ownsRow B e 4 (.slice ao n c) l.length (rtCs l)) : RtIn w ao l := by
  intro i hi
  rcases h.2 with ⟨_, h0⟩ | ⟨g, c', cur, hv, hg, hh, _⟩
  · omega
  · simp only [Value.slice.injEq] at hv
    obtain ⟨e1, e2, e3, e4⟩ := rtCs_get l i hi
    have k := fun j u hh => h.cells (g := g) (by rw [hv.1]; rfl) j u hh
    have c0 := k _ _ e1
    have c1 := k _ _ e2
    have c2 := k _ _ e3
    have c3 := k _ _ e4
    rw [add0] at c0 c1 c2 c3
    exact ⟨g, 0, hv.1, lt_of_block hh, c0, by rw [← Nat.add_assoc] at c1; exact c1, by rw [← Nat.add_assoc] at c2; exact c2, by rw [← Nat.add_assoc] at c3; exact c3⟩
def ClIn (w : World) (ao : Option Addr) (l : List Rl) : Prop :=
  ∀ i (h : i < l.length), ∃ b off, ao = some ⟨b, off, none⟩ ∧ b < w.heap.size ∧ w.cell? ⟨b, off + i * 3, none⟩ = some (.int .i64 l[i].pe) ∧ w.cell? ⟨b, off + i * 3 + 1, none⟩ = some (.string l[i].tx) ∧
    w.cell? ⟨b, off + i * 3 + 2, none⟩ = some (.int .i64 l[i].ac)
theorem heap_new_at (w : World) (o : Obj) (k : Nat) (hk : w.heap.size = k) : (w.alloc o).heap[k]? = some o := by
  subst hk; exact heap_alloc_new w o
theorem ClIn.below {w w' : World} {ao : Option Addr} {l : List Rl} (h : ClIn w ao l) (hb : Below w.heap.size w w') : ClIn w' ao l := by
  intro i hi
  obtain ⟨b, off, e, hlt, c0, c1, c2⟩ := h i hi
  exact ⟨b, off, e, Nat.lt_of_lt_of_le hlt hb.size, (hb.cell hlt).trans c0, (hb.cell hlt).trans c1, (hb.cell hlt).trans c2⟩
theorem clCs_get : ∀ (l : List Rl) (i : Nat) (h : i < l.length), (clCs l)[i * 3]? = some (.int .i64 l[i].pe) ∧ (clCs l)[i * 3 + 1]? = some (.string l[i].tx) ∧ (clCs l)[i * 3 + 2]? = some (.int .i64 l[i].ac) := by
  intro l
  induction l with
  | nil => intro i h; simp at h
  | cons a l ih =>
    intro i h
    have e : clCs (a :: l) = .int .i64 a.pe :: .string a.tx :: .int .i64 a.ac :: clCs l := rfl
    rw [e]
    cases i with
    | zero => exact ⟨rfl, rfl, rfl⟩
    | succ i =>
      have e1 : (i + 1) * 3 = i * 3 + 1 + 1 + 1 := by omega
      rw [e1]
      simp only [List.getElem?_cons_succ, List.getElem_cons_succ]
      exact ih i (by simpa using h)
theorem ClIn.of {w : World} {B : Nat} {e : TypeId} {ao : Option Addr} {n c : Nat} {l : List Rl} (h : w.ownsRow B e 3 (.slice ao n c) l.length (clCs l)) : ClIn w ao l := by
  intro i hi
  rcases h.2 with ⟨_, h0⟩ | ⟨g, c', cur, hv, hg, hh, _⟩
  · omega
  · simp only [Value.slice.injEq] at hv
    obtain ⟨e1, e2, e3⟩ := clCs_get l i hi
    have k := fun j u hh => h.cells (g := g) (by rw [hv.1]; rfl) j u hh
    have c0 := k _ _ e1
    have c1 := k _ _ e2
    have c2 := k _ _ e3
    rw [add0] at c0 c1 c2
    exact ⟨g, 0, hv.1, lt_of_block hh, c0, by rw [← Nat.add_assoc] at c1; exact c1, by rw [← Nat.add_assoc] at c2; exact c2⟩
theorem infoLRt : (Try.prog.info? 198).map (fun i => (i.zero, i.size, i.bytes)) = some (some (.agg #[.int .i64 0, .int .i64 0, .int .i64 0, .int .i64 0]), 4, 32) := by kernel_rfl
theorem infoLCl : (Try.prog.info? 187).map (fun i => (i.zero, i.size, i.bytes)) = some (some (.agg #[.int .i64 0, .string ⟨#[]⟩, .int .i64 0]), 3, 32) := by kernel_rfl
theorem clC_one (r : Rl) : ∀ u ∈ clC r, u.oneCell' = true := by
  intro u hu
  simp only [clC, List.mem_cons, List.not_mem_nil, or_false] at hu
  rcases hu with rfl | rfl | rfl <;> rfl
def LRt (w : World) (B : Nat) (v : Value) (l : List Rt) : Prop := w.ownsRow B 198 4 v l.length (rtCs l)
theorem LRt.nil (w : World) (B : Nat) : LRt w B (.slice none 0 0) [] := World.ownsRow_nil _ _ _ _
theorem LRt.snoc {w : World} {B : Nat} {v : Value} {l : List Rt} {r : Rt} (h : w.ownsRow B 198 4 v (l.length + 1) (rtCs l ++ rtC r)) : LRt w B v (l ++ [r]) := by
  have e : rtCs (l ++ [r]) = rtCs l ++ rtC r := by simp [rtCs]
  unfold LRt; rw [e, List.length_append]; exact h
def LCl (w : World) (B : Nat) (v : Value) (l : List Rl) : Prop := w.ownsRow B 187 3 v l.length (clCs l)
theorem LCl.nil (w : World) (B : Nat) : LCl w B (.slice none 0 0) [] := World.ownsRow_nil _ _ _ _
theorem LCl.snoc {w : World} {B : Nat} {v : Value} {l : List Rl} {r : Rl} (h : w.ownsRow B 187 3 v (l.length + 1) (clCs l ++ clC r)) : LCl w B v (l ++ [r]) := by
  have e : clCs (l ++ [r]) = clCs l ++ clC r := by simp [clCs]
  unfold LCl; rw [e, List.length_append]; exact h
theorem gfilter_take {α : Type} (f : α → Bool) (l : List α) (i : Nat) (h : i < l.length) : (l.take (i + 1)).filter f = (l.take i).filter f ++ (if f l[i] then [l[i]] else []) := by
  rw [List.take_add_one, List.getElem?_eq_getElem h, List.filter_append]
  simp only [Option.toList, List.filter_cons, List.filter_nil]
theorem erase_take {α : Type} (l : List α) (i k : Nat) (h : i < l.length) : (l.take (i + 1)).eraseIdx k = (l.take i).eraseIdx k ++ (if i = k then [] else [l[i]]) := by
  rw [List.take_add_one, List.getElem?_eq_getElem h]
  have hl : (l.take i).length = i := by rw [List.length_take]; omega
  simp only [Option.toList]
  by_cases hk : k < i
  · rw [List.eraseIdx_append_of_lt_length (by omega), if_neg (by omega)]
  · rw [List.eraseIdx_append_of_length_le (by omega), hl, List.eraseIdx_of_length_le (l := l.take i) (by omega)]
    by_cases he : i = k
    · subst he; simp
    · rw [if_neg he]
      obtain ⟨d, hd⟩ : ∃ d, k - i = d + 1 := ⟨k - i - 1, by omega⟩
      rw [hd]
      simp
theorem find_drop {α : Type} (f : α → Bool) (l : List α) (i : Nat) (h : i < l.length) : (l.drop i).findIdx f = if f l[i] then 0 else (l.drop (i + 1)).findIdx f + 1 := by
  rw [List.drop_eq_getElem_cons h, List.findIdx_cons]
  cases f l[i] <;> rfl
theorem peNe (r pe : Int) : (!decide (r = pe)) = (r != pe) := by
  by_cases h : r = pe
  · simp [h]
  · simp [h]

end Go.Proofs.Ytgkiknfpcbcnnaa
