import Derived.Test.YtdepfhkhkocehabSeg11
namespace Go.Proofs.Ytdepfhkhkocehab
open Go.RowKit
set_option maxRecDepth 20000

/-- One rule's state, and what is behind it: the last text that was not beaten, the entries so far, whether it is full. -/
def st1 (c : Cf) (rts : List Rt) (last : ByteArray) (tot : Int) (full : Bool) (r : Rl) : Int := if holdS c rts r then (if r.tx = last then 1 else (if full || (decide (c.bu < (nS (dS r.tx) : Int)) || decide (c.cp < tot + (nS (dS r.tx) : Int))) then 2 else 3)) else 0
/-- The state of the loop over Status, behind its first i rows. -/
structure SegI (c : Cf) (rts : List Rt) (M : List Rl) (S : List Int) (i : Nat) (last : ByteArray) (tot : Int) (full : Bool) : Prop where
  drop : S.drop i = stF c rts last tot full (M.drop i)
  last : (last = ⟨#[]⟩ ∧ ∀ k (h : k < S.length), k < i → S[k] ≤ 1) ∨ ∃ k0, ∃ (h0 : k0 < M.length) (h1 : k0 < S.length), k0 < i ∧ 1 < S[k0] ∧ M[k0].tx = last ∧ ∀ k (h : k < S.length), k0 < k → k < i → S[k] ≤ 1
  t0 : 0 ≤ tot
  tb : tot ≤ (i : Int) * 4294967296
theorem SegI.zero (c : Cf) (rts : List Rt) (M : List Rl) : SegI c rts M (stF c rts ⟨#[]⟩ 0 false M) 0 ⟨#[]⟩ 0 false :=
  ⟨by simp, .inl ⟨rfl, fun k _ h => absurd h (by omega)⟩, by omega, by omega⟩
theorem erl_le {a b d : Rl} (h1 : erl a b = true) (h2 : erl b d = true) (he : kyR a = kyR d) : kyR a = kyR b := by
  rcases (erl_iff a b).1 h1 with p | p
  · rcases (erl_iff b d).1 h2 with q | q
    · rw [← he] at q
      have := cmpL_anti (kyR a) (kyR b)
      omega
    · rw [he, q.1]
  · exact p.1
/-- Two rules of one text, one behind the other: all between them are of that text. -/
theorem same_between {M : List Rl} (hs : M.Pairwise fun x y => erl x y = true) (hd : ∀ q ∈ M, (decS q.tx).isSome = true) {k m i : Nat} (hi : i < M.length) (hkm : k ≤ m) (hmi : m < i) (h : (M[k]'(by omega)).tx = M[i].tx) : (M[m]'(by omega)).tx = M[i].tx := by
  by_cases hkm' : k = m
  · subst hkm'; exact h
  · have e1 := List.pairwise_iff_getElem.1 hs k m (by omega) (by omega) (by omega)
    have e2 := List.pairwise_iff_getElem.1 hs m i (by omega) hi hmi
    have hk : kyR (M[k]'(by omega)) = kyR M[i] := by unfold kyR; rw [h]
    have := erl_le e1 e2 hk
    rw [← h]
    exact (kyR_inj (hd _ (List.getElem_mem _)) (hd _ (List.getElem_mem _)) this).symm
section
variable {c : Cf} {rts : List Rt} {M : List Rl} {S : List Int} {i : Nat} {last : ByteArray} {tot : Int} {full : Bool}
theorem SegI.at_ (h : SegI c rts M S i last tot full) (hi : i < M.length) (hs : i < S.length) : S[i] = st1 c rts last tot full M[i] := by
  have e := h.drop
  rw [List.drop_eq_getElem_cons hs, List.drop_eq_getElem_cons hi] at e
  simp only [stF] at e
  unfold st1
  split at e
  · rename_i hh
    rw [if_pos hh]
    split at e
    · rename_i hl; rw [if_pos hl]; exact (List.cons.inj e).1
    · rename_i hl; rw [if_neg hl]; exact (List.cons.inj e).1
  · rename_i hh
    rw [if_neg hh]; exact (List.cons.inj e).1
/-- Was a rule of that text taken before? -/
theorem SegI.taken (h : SegI c rts M S i last tot full) (hi : i < M.length) (hp : M.Pairwise fun x y => erl x y = true) (hd : ∀ q ∈ M, (decS q.tx).isSome = true) : (∃ k, ∃ (h1 : k < M.length) (h2 : k < S.length), k < i ∧ M[k].tx = M[i].tx ∧ 1 < S[k]) ↔ M[i].tx = last := by
  rcases h.last with ⟨hl, hn⟩ | ⟨k0, h0, h1, hlt, hgt, hl, hn⟩
  · constructor
    · rintro ⟨k, h1, h2, hk, _, hg⟩
      have := hn k h2 hk
      omega
    · intro e
      have hq := hd _ (List.getElem_mem hi)
      rw [e, hl] at hq
      exact absurd hq (by decide)
  · constructor
    · rintro ⟨k, h2, h3, hk, he, hg⟩
      have hk0 : k ≤ k0 := by
        refine Nat.le_of_not_lt fun hc => ?_
        have := hn k h3 hc hk
        omega
      rw [← hl]
      exact (same_between hp hd hi hk0 hlt he).symm
    · intro e
      exact ⟨k0, h0, h1, hlt, by rw [hl, e], hgt⟩
theorem SegI.stay (h : SegI c rts M S i last tot full) (hi : i < M.length) (hs : i < S.length) (hle : S[i] ≤ 1) : SegI c rts M S (i + 1) last tot full := by
  have ha := h.at_ hi hs
  have e := h.drop
  rw [List.drop_eq_getElem_cons hs, List.drop_eq_getElem_cons hi] at e
  simp only [stF] at e
  have hdrop : S.drop (i + 1) = stF c rts last tot full (M.drop (i + 1)) := by
    split at e
    · rename_i hh
      split at e
      · exact (List.cons.inj e).2
      · rename_i hl
        have := (List.cons.inj e).1
        split at this <;> omega
    · exact (List.cons.inj e).2
  refine ⟨hdrop, ?_, h.t0, by have := h.tb; omega⟩
  rcases h.last with ⟨hl, hn⟩ | ⟨k0, h0, h1, hlt, hgt, hl, hn⟩
  · refine .inl ⟨hl, fun k hk hlt => ?_⟩
    by_cases he : k = i
    · subst he; exact hle
    · exact hn k hk (by omega)
  · refine .inr ⟨k0, h0, h1, by omega, hgt, hl, fun k hk hlo hlt => ?_⟩
    by_cases he : k = i
    · subst he; exact hle
    · exact hn k hk hlo (by omega)
theorem SegI.go (h : SegI c rts M S i last tot full) (hi : i < M.length) (hs : i < S.length) (hgt : 1 < S[i]) : M[i].tx ≠ last ∧ (S[i] = 3 ↔ (full || (decide (c.bu < (nS (dS M[i].tx) : Int)) || decide (c.cp < tot + (nS (dS M[i].tx) : Int)))) = false) ∧ S[i] ≤ 3 ∧ SegI c rts M S (i + 1) M[i].tx (tot + (nS (dS M[i].tx) : Int)) (full || (decide (c.bu < (nS (dS M[i].tx) : Int)) || decide (c.cp < tot + (nS (dS M[i].tx) : Int)))) := by
  have e := h.drop
  rw [List.drop_eq_getElem_cons hs, List.drop_eq_getElem_cons hi] at e
  simp only [stF] at e
  split at e
  · rename_i hh
    split at e
    · have := (List.cons.inj e).1; omega
    · rename_i hl
      obtain ⟨e1, e2⟩ := List.cons.inj e
      refine ⟨hl, ?_, ?_, e2, .inr ⟨i, hi, hs, by omega, hgt, rfl, fun k _ h1 h2 => absurd h1 (by omega)⟩, by have := h.t0; omega, ?_⟩
      · rw [e1]
        cases full || (decide (c.bu < (nS (dS M[i].tx) : Int)) || decide (c.cp < tot + (nS (dS M[i].tx) : Int)))
        · simp
        · simp
      · rw [e1]; split <;> omega
      · have := nS_bd (dS M[i].tx)
        have := h.tb
        omega
  · have := (List.cons.inj e).1; omega
end
end Go.Proofs.Ytdepfhkhkocehab
