import Derived.Test.YtgkiknfpcbcnnaaGreatGc
import Derived.ProofKit
import Derived.OpenShut
import Derived.SizedLaws
namespace Go.Proofs.YtgkiknfpcbcnnaaGreat
open Go.RowKit
set_option maxRecDepth 20000
end Go.Proofs.YtgkiknfpcbcnnaaGreat
namespace Go.Proofs.YtgkiknfpcbcnnaaGreat
open Go.RowKit
set_option maxRecDepth 20000
end Go.Proofs.YtgkiknfpcbcnnaaGreat
namespace Go.Proofs.YtgkiknfpcbcnnaaGreat
open Go.RowKit
set_option maxRecDepth 20000
theorem flat4_at {α : Type} (f : α → List Value) (hf : ∀ a, (f a).length = 4) : ∀ (l : List α) (i : Nat) (h : i < l.length) (j : Nat), j < 4 → (l.flatMap f)[i * 4 + j]? = (f l[i])[j]? := by
  intro l
  induction l with
  | nil => intro i h; simp at h
  | cons a r ih =>
    intro i h j hj
    rw [List.flatMap_cons]
    cases i with
    | zero => rw [List.getElem?_append_left (by rw [hf]; omega)]; simp
    | succ i =>
      rw [List.getElem?_append_right (by rw [hf]; omega), hf]
      have e : (i + 1) * 4 + j - 4 = i * 4 + j := by omega
      rw [e, ih i (by simpa using h) j hj]
      simp
theorem add0 (g k : Nat) : (⟨g, 0, none⟩ : Addr).add k = ⟨g, 0 + k, none⟩ := by unfold Addr.add; split <;> simp_all
theorem owns_terms_in {w : World} {B : Nat} {ao : Option Addr} {cap : Nat} {ts : List Tm} (h : w.ownsRow B 166 4 (.slice ao ts.length cap) ts.length (tcells ts)) : TermsIn w ao ts := by
  intro i hi
  rcases h.2 with ⟨_, h0⟩ | ⟨g, cap', cur, hv, _⟩
  · omega
  · simp only [Value.slice.injEq] at hv
    obtain ⟨rfl, _, _⟩ := hv
    have hc : ∀ j u, j < 4 → (tcell ts[i])[j]? = some u → w.cell? ⟨g, 0 + i * 4 + j, none⟩ = some u := by
      intro j u hj hu
      have := h.cells (g := g) rfl (i * 4 + j) u (by unfold tcells; rw [flat4_at tcell (fun _ => rfl) ts i hi j hj]; exact hu)
      rw [add0, ← Nat.add_assoc] at this
      exact this
    exact ⟨g, 0, rfl, hc 0 _ (by omega) rfl, hc 1 _ (by omega) rfl, hc 2 _ (by omega) rfl, hc 3 _ (by omega) rfl⟩
theorem RuleAt.reads {w : World} {B : Nat} {ao : Option Addr} {cap : Nat} {qs : List (Pt × Value)} (h : RuleAt w B (.slice ao qs.length cap) qs) (hs : ∀ q ∈ qs, q.1.ts.length ≤ 140737488351232) : PartsIn w ao (qs.map Prod.fst) := by
  intro i hi
  rw [List.length_map] at hi
  rcases h.parts.2 with ⟨_, h0⟩ | ⟨g, cap', cur, hv, _⟩
  · omega
  · simp only [Value.slice.injEq] at hv
    obtain ⟨rfl, _, _⟩ := hv
    have hc : ∀ j u, j < 4 → (pcell qs[i])[j]? = some u → w.cell? ⟨g, 0 + i * 4 + j, none⟩ = some u := by
      intro j u hj hu
      have := h.parts.cells (g := g) rfl (i * 4 + j) u (by unfold pcells; rw [flat4_at pcell (fun _ => rfl) qs i hi j hj]; exact hu)
      rw [add0, ← Nat.add_assoc] at this
      exact this
    have ht := h.terms qs[i] (List.getElem_mem hi)
    obtain ⟨tao, tcap, he⟩ := ownsRow_shape ht
    rw [he] at ht
    simp only [List.getElem_map]
    exact ⟨g, 0, tao, tcap, rfl, hc 0 _ (by omega) rfl, hc 1 _ (by omega) rfl, hc 2 _ (by omega) rfl, hc 3 _ (by omega) (by rw [← he]; rfl), hs _ (List.getElem_mem hi), owns_terms_in ht⟩
/-! A rule without its last byte is none. -/
theorem isR_small {ps : List Pt} (h : isR ps = true) : ps.length ≤ 5 ∧ 0 < ps.length ∧ ∀ p ∈ ps, p.ts.length ≤ 140737488351232 := by
  unfold isR at h
  simp only [Bool.and_eq_true, decide_eq_true_eq] at h
  have := allP_len ps 0 (by omega) (by omega) h.1
  refine ⟨by omega, h.2, fun p hp => ?_⟩
  obtain ⟨i, hi, rfl⟩ := List.getElem_of_mem hp
  have hP := allP_get ps 0 h.1 i hi
  cases hk : hasP ps[i].ty
  · have := (isP_terms hP hk).2.2.2.2.1; omega
  · rw [(isP_pref hP hk).1]; simp
end Go.Proofs.YtgkiknfpcbcnnaaGreat
