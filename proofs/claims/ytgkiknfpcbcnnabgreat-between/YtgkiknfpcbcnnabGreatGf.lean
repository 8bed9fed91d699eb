import Derived.Test.YtgkiknfpcbcnnabGreatGe
set_option linter.unusedSimpArgs false
namespace Go.Proofs.YtgkiknfpcbcnnabGreat
open Go.RowKit
set_option maxRecDepth 20000

end Go.Proofs.YtgkiknfpcbcnnabGreat

namespace Go.Proofs.YtgkiknfpcbcnnabGreat
open Go.RowKit
set_option maxRecDepth 20000

/-- Where ref.Encode's loop stands. -/
structure ESt (ps : List Pt) (j : Nat) (acc : ByteArray) (b : Int) : Prop where
  le : j ≤ ps.length
  size : acc.size ≤ 25 * j
  low : (j : Int) ≤ b
  high : b ≤ 5
  zero : j = 0 → b = 0
  last : ∀ i (h : i < ps.length), i + 1 = j → b = ps[i].ty
  text : acc ++ wParts (ps.drop j) = wParts ps
  rest : allP 0 ps = allP b (ps.drop j)

theorem ESt.start (ps : List Pt) : ESt ps 0 ⟨#[]⟩ 0 := ⟨Nat.zero_le _, Nat.le_refl _, by omega, by omega, fun _ => rfl, fun i _ h => by omega, nil_app _, rfl⟩

theorem ESt.fail {ps : List Pt} {j : Nat} {acc : ByteArray} {b : Int} (h : ESt ps j acc b) (hlt : j < ps.length) (hf : isP ps[j] = false ∨ ps[j].ty ≤ b) : isR ps = false := by
  unfold isR
  rw [h.rest, List.drop_eq_getElem_cons hlt]
  rcases hf with hf | hf
  · simp [allP, hf]
  · simp [allP]; omega

theorem ESt.step {ps : List Pt} {j : Nat} {acc : ByteArray} {b : Int} (h : ESt ps j acc b) (hlt : j < ps.length) (hP : isP ps[j] = true) (hb : b < ps[j].ty) : ESt ps (j + 1) (acc ++ wPart ps[j]) ps[j].ty := by
  have h1 := isP_ty hP
  have h2 := wPart_size hP
  have := h.size
  have := h.low
  have hl : ∀ i (hi : i < ps.length), i + 1 = j + 1 → ps[j].ty = ps[i].ty := by
    intro i hi e
    have e' : i = j := by omega
    subst e'
    rfl
  refine ⟨hlt, by rw [ByteArray.size_append]; omega, by omega, h1.2, fun e => by omega, hl, ?_, ?_⟩
  · rw [← h.text, List.drop_eq_getElem_cons hlt, app_assoc]; rfl
  · rw [h.rest, List.drop_eq_getElem_cons hlt]; simp [allP, hP, hb]

theorem ESt.done {ps : List Pt} {j : Nat} {acc : ByteArray} {b : Int} (h : ESt ps j acc b) (hge : ¬ j < ps.length) : wParts ps = acc ∧ isR ps = decide (0 < ps.length) := by
  have e : ps.drop j = [] := List.drop_of_length_le (by omega)
  constructor
  · rw [← h.text, e]; exact app_nil _
  · unfold isR; rw [h.rest, e]; simp [allP]

def encR (ps : List Pt) : Value := if isR ps then .tuple #[.string (wParts ps), .int .i64 0] else .tuple #[.string ⟨#[]⟩, .int .i64 2]

end Go.Proofs.YtgkiknfpcbcnnabGreat

namespace Go.Proofs.YtgkiknfpcbcnnabGreat
open Go.RowKit
set_option maxRecDepth 20000

theorem TermsIn.drewN {w : World} {ao : Option Addr} {ts : List Tm} (h : TermsIn w ao ts) (n : Nat) : TermsIn (w.drewN n) ao ts := h.below (below_drewN (Below.refl _ _) _)
theorem PartsIn.drewN {w : World} {ao : Option Addr} {ps : List Pt} (h : PartsIn w ao ps) (n : Nat) : PartsIn (w.drewN n) ao ps := h.below (below_drewN (Below.refl _ _) _)

end Go.Proofs.YtgkiknfpcbcnnabGreat
