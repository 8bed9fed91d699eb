import Derived.Test.YtdepfhkhkocehabSeg10
import Derived.Test.YtdepfhkhkocehabGr
namespace Go.Proofs.Ytdepfhkhkocehab
open Go.RowKit
set_option maxRecDepth 20000

theorem stats_fst (st : Gs) (i : Nat) (hi : i < (stats st).length) : ∃ h : i < (sortR st.rls).length, (stats st)[i].1 = (sortR st.rls)[i] := by
  have hl : (stats st).length = (sortR st.rls).length := by rw [stats_len, (sortR_perm st.rls).length_eq]
  refine ⟨by omega, ?_⟩
  simp only [stats, List.getElem_zip]
theorem stats_mem (st : Gs) (i : Nat) (hi : i < (stats st).length) : (stats st)[i].1 ∈ st.rls := by
  obtain ⟨h, e⟩ := stats_fst st i hi
  rw [e]
  exact (sortR_perm st.rls).mem_iff.1 (List.getElem_mem h)
theorem stats_erl {st : Gs} (ht : Tel st.rls) (i j : Nat) (hij : i < j) (hj : j < (stats st).length) : erl ((stats st)[i]'(by omega)).1 (stats st)[j].1 = true := by
  obtain ⟨h1, e1⟩ := stats_fst st i (by omega)
  obtain ⟨h2, e2⟩ := stats_fst st j hj
  rw [e1, e2]
  exact List.pairwise_iff_getElem.1 (sortR_sorted ht) i j h1 h2 hij
theorem cC_of {a b : Rl} (ha : (decS a.tx).isSome = true) (hb : (decS b.tx).isSome = true) : cC a.tx b.tx = cmpL (kyR a) (kyR b) ∧ cE a.tx b.tx = 0 := by
  unfold cC cE
  rw [ha, hb]
  refine ⟨?_, rfl⟩
  rw [if_pos (show (true && true) = true from rfl)]
  exact (parts_cmp _ _ (fun p hp => by obtain ⟨k, hk, rfl⟩ := List.mem_iff_getElem.1 hp; exact dS_isP a.tx k hk) (fun p hp => by obtain ⟨k, hk, rfl⟩ := List.mem_iff_getElem.1 hp; exact dS_isP b.tx k hk)).1
/-- What stands ahead in Status goes ahead by Compare, or is of a lower peer. -/
theorem erl_cmp {a b : Rl} (ha : (decS a.tx).isSome = true) (hb : (decS b.tx).isSome = true) (h : erl a b = true) : cE a.tx b.tx = 0 ∧ cC a.tx b.tx ≤ 0 ∧ (cC a.tx b.tx = 0 → a.pe < b.pe) := by
  obtain ⟨e1, e2⟩ := cC_of ha hb
  refine ⟨e2, ?_⟩
  rw [e1]
  have hb := cmpL_bd (kyR a) (kyR b)
  rcases (erl_iff a b).1 h with h | ⟨h, hp⟩
  · exact ⟨by omega, fun h0 => by omega⟩
  · have h0 : cmpL (kyR a) (kyR b) = 0 := by rw [h]; exact cmpL_self _
    exact ⟨by omega, fun _ => hp⟩
theorem text_size {s : ByteArray} (h : (decS s).isSome = true) : s.size ≤ 140737488351232 := by
  obtain ⟨ps, hp⟩ := Option.isSome_iff_exists.1 h
  obtain ⟨h1, h2⟩ := decS_sound s ps hp
  rw [← h2]
  exact (made_rule h1).2
def eqB (q s : Rl) : Bool := decide (q.pe = s.pe) && (decide (q.tx = s.tx) && decide (q.ac = s.ac))
theorem eqB_self (q : Rl) : eqB q q = true := by simp [eqB]
end Go.Proofs.Ytdepfhkhkocehab
