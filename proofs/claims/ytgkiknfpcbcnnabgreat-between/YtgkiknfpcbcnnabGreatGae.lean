import Derived.Test.YtgkiknfpcbcnnabGreatGad
import Derived.Test.YtgkiknfpcbcnnabGreatCmp7
namespace Go.Proofs.YtgkiknfpcbcnnabGreat
open Go.RowKit
set_option maxRecDepth 20000

theorem sdCs_get : ∀ (l : List Sd) (i : Nat) (h : i < l.length), (sdCs l)[i * 7]? = some (.string l[i].r.tx) ∧ (sdCs l)[i * 7 + 1]? = some (.int .i64 l[i].r.pe) ∧ (sdCs l)[i * 7 + 2]? = some (.int .i64 l[i].r.ac) ∧ (sdCs l)[i * 7 + 3]? = some l[i].v ∧ (sdCs l)[i * 7 + 4]? = some (.string l[i].ky) ∧ (sdCs l)[i * 7 + 5]? = some (.int .i64 (nS (dS l[i].r.tx) : Nat)) ∧ (sdCs l)[i * 7 + 6]? = some l[i].cv := by
  intro l
  induction l with
  | nil => intro i h; simp at h
  | cons a l ih =>
    intro i h
    have e : sdCs (a :: l) = .string a.r.tx :: .int .i64 a.r.pe :: .int .i64 a.r.ac :: a.v :: .string a.ky :: .int .i64 (nS (dS a.r.tx) : Nat) :: a.cv :: sdCs l := rfl
    rw [e]
    cases i with
    | zero => exact ⟨rfl, rfl, rfl, rfl, rfl, rfl, rfl⟩
    | succ i =>
      have e1 : (i + 1) * 7 = i * 7 + 1 + 1 + 1 + 1 + 1 + 1 + 1 := by omega
      rw [e1]
      simp only [List.getElem?_cons_succ, List.getElem_cons_succ]
      exact ih i (by simpa using h)

/-- The cells of one rule in a row. -/
def SdAt (w : World) (lo : Option Addr) (i : Nat) (s : Sd) : Prop :=
  ∃ b off, lo = some ⟨b, off, none⟩ ∧ b < w.heap.size ∧ w.cell? ⟨b, off + i * 7, none⟩ = some (.string s.r.tx) ∧ w.cell? ⟨b, off + i * 7 + 1, none⟩ = some (.int .i64 s.r.pe) ∧ w.cell? ⟨b, off + i * 7 + 2, none⟩ = some (.int .i64 s.r.ac) ∧
    w.cell? ⟨b, off + i * 7 + 3, none⟩ = some s.v ∧ w.cell? ⟨b, off + i * 7 + 4, none⟩ = some (.string s.ky) ∧ w.cell? ⟨b, off + i * 7 + 5, none⟩ = some (.int .i64 (nS (dS s.r.tx) : Nat)) ∧ w.cell? ⟨b, off + i * 7 + 6, none⟩ = some s.cv
def SdIn (w : World) (lo : Option Addr) (l : List Sd) : Prop := ∀ i (h : i < l.length), SdAt w lo i l[i]
theorem SdIn.below {w w' : World} {lo : Option Addr} {l : List Sd} (h : SdIn w lo l) (hb : Below w.heap.size w w') : SdIn w' lo l := by
  intro i hi
  obtain ⟨b, off, e, hlt, c0, c1, c2, c3, c4, c5, c6⟩ := h i hi
  exact ⟨b, off, e, Nat.lt_of_lt_of_le hlt hb.size, (hb.cell hlt).trans c0, (hb.cell hlt).trans c1, (hb.cell hlt).trans c2, (hb.cell hlt).trans c3, (hb.cell hlt).trans c4, (hb.cell hlt).trans c5, (hb.cell hlt).trans c6⟩
/-- A rule's values that are slices. -/
theorem SdOK.shape {w : World} {F : Nat → Prop} {s : Sd} (h : SdOK w F s) : ∃ po pn pc co cn cc, s.v = .slice po pn pc ∧ s.cv = .slice co cn cc := by
  obtain ⟨ao, cap, h1, _⟩ := h.rule.reads
  obtain ⟨co, cc, h2⟩ := ownsRow_shape h.row
  exact ⟨ao, _, cap, co, _, cc, h1, h2⟩
theorem sdC_one {s : Sd} {po co : Option Addr} {pn pc cn cc : Nat} (h1 : s.v = .slice po pn pc) (h2 : s.cv = .slice co cn cc) : ∀ u ∈ sdC s, u.oneCell' = true := by
  intro u hu
  simp only [sdC, List.mem_cons, List.not_mem_nil, or_false] at hu
  rcases hu with rfl | rfl | rfl | rfl | rfl | rfl | rfl
  · rfl
  · rfl
  · rfl
  · rw [h1]; rfl
  · rfl
  · rfl
  · rw [h2]; rfl

theorem sfilter_take (f : Sd → Bool) (l : List Sd) (i : Nat) (h : i < l.length) : (l.take (i + 1)).filter f = (l.take i).filter f ++ (if f l[i] then [l[i]] else []) := by
  rw [List.take_add_one, List.getElem?_eq_getElem h, List.filter_append]
  simp only [Option.toList, List.filter_cons, List.filter_nil]
theorem sfilter_map (f : Rl → Bool) : ∀ l : List Sd, (l.filter (fun s => f s.r)).map Sd.r = (l.map Sd.r).filter f := by
  intro l
  induction l with
  | nil => rfl
  | cons a l ih =>
    simp only [List.filter_cons, List.map_cons]
    split
    · rw [List.map_cons, ih]
    · exact ih
theorem reS_no {st : Gs} {pe : Int} {tx : ByteArray} (h : reE st pe tx ≠ 0) : reS st pe tx = st := by unfold reS; rw [if_neg h]
theorem adS_no {st : Gs} {pe : Int} {tx : ByteArray} {ac : Int} (h : adE st pe tx ac ≠ 0) : adS st pe tx ac = st := by unfold adS; rw [if_neg h]
end Go.Proofs.YtgkiknfpcbcnnabGreat

namespace Go.Proofs.YtgkiknfpcbcnnabGreat
open Go.RowKit
set_option maxRecDepth 20000

theorem text_ne {a b : ByteArray} (h : a ≠ b) : (a.toList == b.toList) = false := by
  rw [ByteArray.toList_eq, ByteArray.toList_eq]
  exact beq_eq_false_iff_ne.2 fun e => h (bl_inj e)

end Go.Proofs.YtgkiknfpcbcnnabGreat

namespace Go.Proofs.YtgkiknfpcbcnnabGreat
open Go.RowKit
set_option maxRecDepth 20000

end Go.Proofs.YtgkiknfpcbcnnabGreat
