import Derived.Test.YtgkiknfpcbcnnabGreatGaf
namespace Go.Proofs.YtgkiknfpcbcnnabGreat
open Go.RowKit
set_option maxRecDepth 20000

/-- A rule as a value. -/
def sdV (r : Rl) (po : Option Addr) (pn pc : Nat) (ky : ByteArray) (co : Option Addr) (cn cc : Nat) : Value :=
  .agg #[.string r.tx, .int .i64 r.pe, .int .i64 r.ac, .slice po pn pc, .string ky, .int .i64 (nS (dS r.tx) : Nat), .slice co cn cc]

theorem infoInt : (Tryz.prog.info? 3).map (fun i => (i.zero, i.size, i.bytes)) = some (some (.int .i64 0), 1, 8) := by kernel_rfl
def IRow (w : World) (B : Nat) (v : Value) (l : List Int) : Prop := w.ownsRow B 3 1 v l.length (l.map (Value.int .i64))
theorem IRow.nil (w : World) (B : Nat) : IRow w B (.slice none 0 0) [] := World.ownsRow_nil _ _ _ _
theorem IRow.snoc {w : World} {B : Nat} {v : Value} {l : List Int} {n : Int} (h : w.ownsRow B 3 1 v (l.length + 1) (l.map (Value.int .i64) ++ [.int .i64 n])) : IRow w B v (l ++ [n]) := by
  unfold IRow; rw [List.length_append, List.map_append]; exact h
theorem ints_one (n : Int) : ∀ u ∈ [Value.int .i64 n], u.oneCell' = true := by
  intro u hu; simp only [List.mem_singleton] at hu; subst hu; rfl

/-- What a gate holds of each rule that is gone through. -/
structure SdR (w : World) (F : Nat → Prop) (s : Sd) : Prop where
  ok : SdOK w F s
  pe : peOK s.r.pe = true
  dec : (decS s.r.tx).isSome = true
end Go.Proofs.YtgkiknfpcbcnnabGreat

namespace Go.Proofs.YtgkiknfpcbcnnabGreat
open Go.RowKit
set_option maxRecDepth 20000

theorem dS_ne {tx : ByteArray} (h : (decS tx).isSome = true) : 0 < (dS tx).length := by
  obtain ⟨ps, hp⟩ := Option.isSome_iff_exists.1 h
  have hR := (decS_sound tx ps hp).1
  unfold dS
  rw [hp]
  cases ps with
  | nil => exact absurd hR (by decide)
  | cons a l => simp
theorem headD_get : ∀ (l : List Pt) (d : Pt) (h : 0 < l.length), l.headD d = l[0] := by
  intro l d h
  cases l with
  | nil => simp at h
  | cons a l => rfl
def p0S (tx : ByteArray) : Pt := (dS tx).headD ⟨0, 0, 0, []⟩
theorem p0S_get {tx : ByteArray} (h : 0 < (dS tx).length) : p0S tx = (dS tx)[0] := by
  exact headD_get _ _ h
theorem P0.of {w : World} {po : Option Addr} {tx : ByteArray} (h : PartsIn w po (dS tx)) (hl : 0 < (dS tx).length) : P0 w po (p0S tx) := by
  obtain ⟨b, off, ta, tc, e, c0, c1, c2, _⟩ := h 0 hl
  rw [p0S_get hl]
  simp only [Nat.zero_mul, Nat.add_zero] at c0 c1 c2
  exact ⟨b, off, e, World.block_lt_of_cell? _ _ c0, c0, c1, c2⟩
theorem p0S_pref {tx : ByteArray} (hl : 0 < (dS tx).length) (h1 : (p0S tx).ty = 1) : prefOK (p0S tx).bt (p0S tx).ln = true := by
  rw [p0S_get hl] at h1 ⊢
  exact (isP_pref (isP_dS tx 0 hl) (by rw [h1]; rfl)).2
theorem nS_bd (ps : List Pt) : nS ps ≤ 4294967296 := by
  obtain ⟨a, b, c⟩ := lens ps
  exact (mul_bd a b c).2

theorem SdR.below {w w' : World} {F : Nat → Prop} {s : Sd} (h : SdR w F s) (hF : ∀ b, F b → b < w.heap.size) (hb : Below w.heap.size w w') : SdR w' F s :=
  ⟨h.ok.same (fun b hf => hb.block b (hF b hf)), h.pe, h.dec⟩

end Go.Proofs.YtgkiknfpcbcnnabGreat

namespace Go.Proofs.YtgkiknfpcbcnnabGreat
open Go.RowKit
set_option maxRecDepth 20000

def insS (a : Sd) : List Sd → List Sd
  | [] => [a]
  | b :: l => if erl a.r b.r then a :: b :: l else b :: insS a l
/-- What the reference's sorted answers. -/
def sortS : List Sd → List Sd
  | [] => []
  | a :: l => insS a (sortS l)
theorem insS_perm (a : Sd) : ∀ l, (insS a l).Perm (a :: l) := by
  intro l
  induction l with
  | nil => exact List.Perm.refl _
  | cons b l ih =>
    simp only [insS]
    split
    · exact List.Perm.refl _
    · exact (List.Perm.cons b ih).trans (List.Perm.swap a b l)
theorem sortS_perm : ∀ l, (sortS l).Perm l := by
  intro l
  induction l with
  | nil => exact List.Perm.refl _
  | cons a l ih => exact (insS_perm a _).trans (List.Perm.cons a ih)
theorem insS_map (a : Sd) : ∀ l, (insS a l).map Sd.r = insR a.r (l.map Sd.r) := by
  intro l
  induction l with
  | nil => rfl
  | cons b l ih =>
    simp only [insS, List.map_cons, insR]
    split
    · rfl
    · rw [List.map_cons, ih]
theorem sortS_map : ∀ l, (sortS l).map Sd.r = sortR (l.map Sd.r) := by
  intro l
  induction l with
  | nil => rfl
  | cons a l ih => simp only [sortS, List.map_cons, sortR]; rw [insS_map, ih]

/-- How many rules go ahead of one. -/
def posS (l : List Sd) (s : Sd) : Nat := l.countP (fun q => erl q.r s.r)
theorem posS_map (l : List Sd) (s : Sd) : posS l s = (l.map Sd.r).countP (fun b => erl b s.r) := by
  unfold posS
  rw [List.countP_map]
  rfl
/-- In the sorted list a rule stands at that place. -/
theorem posS_sort {l : List Sd} (ht : Tel (l.map Sd.r)) (p : Nat) (hp : p < (sortS l).length) : posS l (sortS l)[p] = p := by
  have h1 : posS l (sortS l)[p] = posS (sortS l) (sortS l)[p] := by
    unfold posS
    exact ((sortS_perm l).countP_eq _).symm
  rw [h1, posS_map]
  have hs := sortR_sorted ht
  rw [← sortS_map] at hs
  have hp2 : p < ((sortS l).map Sd.r).length := by rw [List.length_map]; exact hp
  have := place hs p hp2
  rw [List.getElem_map] at this
  exact this
theorem posS_lt {l : List Sd} {s : Sd} (hs : s ∈ l) : posS l s < l.length := by
  have h1 : posS l s ≤ l.length := List.countP_le_length
  have h2 : posS l s ≠ l.length := by
    intro he
    unfold posS at he
    rw [List.countP_eq_length] at he
    have := he s hs
    rw [erl_irrefl] at this
    cases this
  omega

/-- When each rule lies at its place, the row is the sorted list. -/
theorem sort_fill {l : List Sd} (ht : Tel (l.map Sd.r)) {M : List (List Value)} (hM : M.length = l.length) (h : ∀ s ∈ l, M[posS l s]? = some (sdC s)) : M = (sortS l).map sdC := by
  apply List.ext_getElem?
  intro p
  have hlen := (sortS_perm l).length_eq
  by_cases hp : p < (sortS l).length
  · rw [List.getElem?_map, List.getElem?_eq_getElem hp]
    have hm : (sortS l)[p] ∈ l := (sortS_perm l).mem_iff.1 (List.getElem_mem hp)
    have := h _ hm
    rw [posS_sort ht p hp] at this
    exact this
  · rw [List.getElem?_eq_none (by omega), List.getElem?_eq_none (by rw [List.length_map]; omega)]
end Go.Proofs.YtgkiknfpcbcnnabGreat
