import Derived.Test.YtdepfhkhkocehabSeg12
import Derived.Test.YtdepfhkhkocehabSeg13
import Derived.Test.YtdepfhkhkocehabGp
namespace Go.Proofs.Ytdepfhkhkocehab
open Go.RowKit
set_option maxRecDepth 20000

theorem RunI.r24 {X : XGate} {B : Nat} {w : World} {r x : Nat} {c : Cf} {lk : Bool} {hd : Hd} {tv : Value} {rts : List Rt} {rls : List Rl} (h : RunI X B w r x c lk hd tv rts rls) : rls.length ≤ 24 := by
  obtain ⟨rv, lv, st, F, hj, hs⟩ := h.ex
  have := (X.ok hj.inv).l24
  rw [hs.rl.length_eq] at this
  exact this
theorem RunI.listed {X : XGate} {B : Nat} {w : World} {r x : Nat} {c : Cf} {lk : Bool} {hd : Hd} {tv : Value} {rts : List Rt} {rls : List Rl} (h : RunI X B w r x c lk hd tv rts rls) {ao : Option Addr} {cap B2 : Nat} (ht : TRow w B2 (.slice ao rls.length cap) (stats ⟨c, rts, rls⟩)) :
    Calls Try.prog 7 #[.pointer (some ⟨r, 0, none⟩), .slice ao rls.length cap] w fun e w' => e = .returned (.bool true) ∧ Below w.heap.size w w' := by
  have h24 := h.r24
  have htel := h.tel
  obtain ⟨rv, lv, st, F, hj, hs⟩ := h.ex
  obtain ⟨lo, lc, rfl⟩ := ownsRow_shape hj.lrow
  have hl : (stats ⟨c, rts, rls⟩).length = rls.length := stats_len _
  have h8 := cell_of_row w r 8 _ _ _ hj.cell
  have q := listed_any r lo ao lc cap B2 rls (stats ⟨c, rts, rls⟩) w h8 hj.lt (ClIn.of hj.lrow) (by rw [hl]; exact ht) h24 (fun i hi => stats_mem ⟨c, rts, rls⟩ i hi) htel.1 (fun i hi => stats_erl (st := ⟨c, rts, rls⟩) htel i (i + 1) (Nat.lt_succ_self i) hi) hl
  rw [hl] at q
  exact q

theorem seg_row (st : Gs) (i : Nat) (hi : i < (stats st).length) : ∃ (h1 : i < (sortR st.rls).length) (h2 : i < (stF st.c st.rts ⟨#[]⟩ 0 false (sortR st.rls)).length), (stats st)[i].1 = (sortR st.rls)[i] ∧ (stats st)[i].2 = (stF st.c st.rts ⟨#[]⟩ 0 false (sortR st.rls))[i] := by
  have hl : (stats st).length = (sortR st.rls).length := by rw [stats_len, (sortR_perm st.rls).length_eq]
  refine ⟨by omega, by rw [stF_len]; omega, ?_, ?_⟩
  · simp only [stats, List.getElem_zip]
  · simp only [stats, List.getElem_zip]
end Go.Proofs.Ytdepfhkhkocehab
