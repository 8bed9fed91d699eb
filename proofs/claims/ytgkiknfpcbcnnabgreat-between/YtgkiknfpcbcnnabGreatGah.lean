import Derived.Test.YtgkiknfpcbcnnabGreatGag
import Derived.Deep.MidRow
import Derived.Deep.RegionHeldLaw
import Derived.Deep.AppendLies
namespace Go.Proofs.YtgkiknfpcbcnnabGreat
open Go.RowKit
set_option maxRecDepth 20000

theorem Below.setCells' {B g : Nat} : ∀ (vs : List Value) (o : Nat) {a w : World}, Below B a w → B ≤ g → Below B a (w.setCells g o vs) := by
  intro vs
  induction vs with
  | nil => intro o a w h _; exact h
  | cons v r ih => intro o a w h hg; exact ih (o + 1) (h.setCell (p := ⟨g, o, none⟩) hg v) hg
theorem setCells_shape {g : Nat} {t : TypeId} : ∀ (vs : List Value) (o : Nat) {w : World} {cur : Array Value}, w.heap[g]? = some (.cells cur t (0, 0)) → ∃ cur', (w.setCells g o vs).heap[g]? = some (.cells cur' t (0, 0)) ∧ cur'.size = cur.size := by
  intro vs
  induction vs with
  | nil => intro o w cur h; exact ⟨cur, h, rfl⟩
  | cons v r ih =>
    intro o w cur h
    obtain ⟨cur', h1, h2⟩ := ih (o + 1) (heap_setCell_same w g o cur t v h)
    exact ⟨cur', h1, by rw [h2]; simp⟩

/-- The seven cells of a rule in a row. -/
def c7 (w : World) (b o : Nat) (r : Rl) (po : Option Addr) (pn pc : Nat) (ky : ByteArray) (co : Option Addr) (cn cc : Nat) : Prop :=
  w.cell? ⟨b, o, none⟩ = some (.string r.tx) ∧ w.cell? ⟨b, o + 1, none⟩ = some (.int .i64 r.pe) ∧ w.cell? ⟨b, o + 2, none⟩ = some (.int .i64 r.ac) ∧ w.cell? ⟨b, o + 3, none⟩ = some (.slice po pn pc) ∧ w.cell? ⟨b, o + 4, none⟩ = some (.string ky) ∧ w.cell? ⟨b, o + 5, none⟩ = some (.int .i64 (nS (dS r.tx) : Nat)) ∧ w.cell? ⟨b, o + 6, none⟩ = some (.slice co cn cc)

/-- The cells that are there of a row that is made. -/
theorem there_of {w : World} {G : Nat} {cur : Array Value} {t : TypeId} {n m : Nat} (h : w.heap[G]? = some (.cells cur t (0, 0))) (hs : cur.size = n * 7) (hm : m < n) : ∀ k, k < 7 → ∃ u, w.cell? ⟨G, m * 7 + k, none⟩ = some u := by
  intro k hk
  have hl : m * 7 + k < cur.size := by rw [hs]; omega
  exact ⟨cur[m * 7 + k], by rw [cell_of_row w G _ cur t _ h]; exact Array.getElem?_eq_getElem hl⟩

theorem posS_ne {l : List Sd} (ht : Tel (l.map Sd.r)) {i j : Nat} (hi : i < l.length) (hj : j < l.length) (hne : i ≠ j) : posS l l[i] ≠ posS l l[j] := by
  intro he
  obtain ⟨p, hp, ep⟩ := List.getElem_of_mem ((sortS_perm l).mem_iff.2 (List.getElem_mem hi))
  obtain ⟨p', hp', ep'⟩ := List.getElem_of_mem ((sortS_perm l).mem_iff.2 (List.getElem_mem hj))
  have h1 := posS_sort ht p hp
  have h2 := posS_sort ht p' hp'
  rw [ep] at h1
  rw [ep'] at h2
  have hpp : p = p' := by omega
  subst hpp
  have hsame : l[i] = l[j] := ep.symm.trans ep'
  have hpw := List.pairwise_iff_getElem.1 ht.2
  have hli : i < (l.map Sd.r).length := by rw [List.length_map]; exact hi
  have hlj : j < (l.map Sd.r).length := by rw [List.length_map]; exact hj
  rcases Nat.lt_or_gt_of_ne hne with h | h
  · have := hpw i j hli hlj h
    simp only [List.getElem_map] at this
    rw [hsame] at this
    exact this ⟨rfl, rfl⟩
  · have := hpw j i hlj hli h
    simp only [List.getElem_map] at this
    rw [hsame] at this
    exact this ⟨rfl, rfl⟩
theorem chunks {α : Type} : ∀ (n : Nat) (l : List α), l.length = n * 7 → ((List.range n).map fun p => (l.drop (p * 7)).take 7).flatten = l := by
  intro n
  induction n with
  | zero => intro l h; simp at h; simp [h]
  | succ n ih =>
    intro l h
    rw [List.range_succ_eq_map, List.map_cons, List.flatten_cons, List.map_map]
    have e : (List.range n).map ((fun p => (l.drop (p * 7)).take 7) ∘ Nat.succ) = (List.range n).map fun p => ((l.drop 7).drop (p * 7)).take 7 := by
      apply List.map_congr_left
      intro p _
      show (l.drop ((p + 1) * 7)).take 7 = _
      rw [List.drop_drop]
      congr 2
      omega
    rw [e, ih (l.drop 7) (by rw [List.length_drop]; omega)]
    simp
theorem sdC_len (s : Sd) : (sdC s).length = 7 := rfl
theorem range_chunk {w : World} {G : Nat} {cur : Array Value} {t : TypeId} {p : Nat} {s : Sd} (h : w.heap[G]? = some (.cells cur t (0, 0))) (hr : w.rangeAt G (p * 7) (sdC s)) : (cur.toList.drop (p * 7)).take 7 = sdC s := by
  apply List.ext_getElem?
  intro k
  by_cases hk : k < 7
  · rw [List.getElem?_take, if_pos hk, List.getElem?_drop]
    obtain ⟨u, hu⟩ : ∃ u, (sdC s)[k]? = some u := ⟨(sdC s)[k]'(by rw [sdC_len]; exact hk), List.getElem?_eq_getElem (by rw [sdC_len]; exact hk)⟩
    have := hr k u hu
    rw [cell_of_row w G _ cur t _ h] at this
    rw [hu, ← this]
    simp
  · rw [List.getElem?_eq_none (by rw [List.length_take]; omega), List.getElem?_eq_none (by rw [sdC_len]; omega)]
end Go.Proofs.YtgkiknfpcbcnnabGreat

namespace Go.Proofs.YtgkiknfpcbcnnabGreat
open Go.RowKit
set_option maxRecDepth 20000

theorem infoStatus : (Tryz.prog.info? 40).map (fun i => (i.zero, i.size, i.bytes)) = some (some (.agg #[.string ⟨#[]⟩, .int .i64 0, .int .i64 0, .int .i64 0]), 4, 40) := by kernel_rfl
def ttC (x : Rl × Int) : List Value := [.string x.1.tx, .int .i64 x.1.pe, .int .i64 x.1.ac, .int .i64 x.2]
def ttCs (l : List (Rl × Int)) : List Value := l.flatMap ttC
/-- A row of what Status tells. -/
def TRow (w : World) (B : Nat) (v : Value) (l : List (Rl × Int)) : Prop := w.ownsRow B 40 4 v l.length (ttCs l)
theorem TRow.nil (w : World) (B : Nat) : TRow w B (.slice none 0 0) [] := World.ownsRow_nil _ _ _ _
theorem TRow.snoc {w : World} {B : Nat} {v : Value} {l : List (Rl × Int)} {x : Rl × Int} (h : w.ownsRow B 40 4 v (l.length + 1) (ttCs l ++ ttC x)) : TRow w B v (l ++ [x]) := by
  have e : ttCs (l ++ [x]) = ttCs l ++ ttC x := by simp [ttCs]
  unfold TRow; rw [e, List.length_append]; exact h
theorem ttC_one (x : Rl × Int) : ∀ u ∈ ttC x, u.oneCell' = true := by
  intro u hu
  simp only [ttC, List.mem_cons, List.not_mem_nil, or_false] at hu
  rcases hu with rfl | rfl | rfl | rfl <;> rfl
theorem IRow.get {w : World} {B : Nat} {ao : Option Addr} {n c : Nat} {L : List Int} (h : IRow w B (.slice ao n c) L) (hl : 0 < L.length) : ∃ g, ao = some ⟨g, 0, none⟩ ∧ g < w.heap.size ∧ ∀ i (hi : i < L.length), w.cell? ⟨g, i, none⟩ = some (.int .i64 L[i]) := by
  rcases h.2 with ⟨_, h0⟩ | ⟨g, c', cur, hv, hg, hh, _⟩
  · omega
  · simp only [Value.slice.injEq] at hv
    refine ⟨g, hv.1, lt_of_block hh, fun i hi => ?_⟩
    have c1 := h.cells (g := g) (by rw [hv.1]; rfl) i (.int .i64 L[i]) (by rw [List.getElem?_map, List.getElem?_eq_getElem hi]; rfl)
    rw [add0, Nat.zero_add] at c1
    exact c1

end Go.Proofs.YtgkiknfpcbcnnabGreat

namespace Go.Proofs.YtgkiknfpcbcnnabGreat
open Go.RowKit
set_option maxRecDepth 20000

/-- The mark of the list of that number. -/
def bdS (n : Nat) : Rl × Int := (⟨⟨#[116, 104, 101, 32, 99, 97, 108, 108, 101, 114, 39, 115]⟩, -9 - (n : Int), -9⟩, -9)

theorem ttCs_get : ∀ (l : List (Rl × Int)) (i : Nat) (h : i < l.length), (ttCs l)[i * 4]? = some (.string l[i].1.tx) ∧ (ttCs l)[i * 4 + 1]? = some (.int .i64 l[i].1.pe) ∧ (ttCs l)[i * 4 + 2]? = some (.int .i64 l[i].1.ac) ∧ (ttCs l)[i * 4 + 3]? = some (.int .i64 l[i].2) := by
  intro l
  induction l with
  | nil => intro i h; simp at h
  | cons a l ih =>
    intro i h
    have e : ttCs (a :: l) = .string a.1.tx :: .int .i64 a.1.pe :: .int .i64 a.1.ac :: .int .i64 a.2 :: ttCs l := rfl
    rw [e]
    cases i with
    | zero => exact ⟨rfl, rfl, rfl, rfl⟩
    | succ i =>
      have e1 : (i + 1) * 4 = i * 4 + 1 + 1 + 1 + 1 := by omega
      rw [e1]
      simp only [List.getElem?_cons_succ, List.getElem_cons_succ]
      exact ih i (by simpa using h)
theorem TRow.get {w : World} {B : Nat} {ao : Option Addr} {n c : Nat} {L : List (Rl × Int)} (h : TRow w B (.slice ao n c) L) (hl : 0 < L.length) : ∃ g, ao = some ⟨g, 0, none⟩ ∧ g < w.heap.size ∧ ∀ i (hi : i < L.length), w.cell? ⟨g, i * 4, none⟩ = some (.string L[i].1.tx) ∧ w.cell? ⟨g, i * 4 + 1, none⟩ = some (.int .i64 L[i].1.pe) ∧ w.cell? ⟨g, i * 4 + 2, none⟩ = some (.int .i64 L[i].1.ac) ∧ w.cell? ⟨g, i * 4 + 3, none⟩ = some (.int .i64 L[i].2) := by
  rcases h.2 with ⟨_, h0⟩ | ⟨g, c', cur, hv, hg, hh, _⟩
  · omega
  · simp only [Value.slice.injEq] at hv
    refine ⟨g, hv.1, lt_of_block hh, fun i hi => ?_⟩
    obtain ⟨e0, e1, e2, e3⟩ := ttCs_get L i hi
    have k := fun j u hh => h.cells (g := g) (by rw [hv.1]; rfl) j u hh
    have c0 := k _ _ e0
    have c1 := k _ _ e1
    have c2 := k _ _ e2
    have c3 := k _ _ e3
    rw [add0, Nat.zero_add] at c0 c1 c2 c3
    exact ⟨c0, c1, c2, c3⟩

end Go.Proofs.YtgkiknfpcbcnnabGreat
