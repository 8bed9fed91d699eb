import Derived.Test.YtgkiknfpcbcnnabGreatGac
namespace Go.Proofs.YtgkiknfpcbcnnabGreat
open Go.RowKit
set_option maxRecDepth 20000

theorem anS_no {st : Gs} {pe bt ln pa : Int} (h : anE st pe bt ln pa ≠ 0) : anS st pe bt ln pa = st := by unfold anS; rw [if_neg h]
theorem wiS_no {st : Gs} {pe bt ln : Int} (h : wiE st pe bt ln ≠ 0) : wiS st pe bt ln = st := by unfold wiS; rw [if_neg h]
theorem peOK_no {pe : Int} (h : pe < 0 ∨ 3 < pe) : peOK pe = false := by
  unfold peOK
  rcases h with h | h
  · rw [decide_eq_false (p := 0 ≤ pe) (by omega)]; rfl
  · rw [decide_eq_false (p := pe ≤ 3) (by omega), Bool.and_false]
theorem peOK_yes {pe : Int} (h : 0 ≤ pe) (k : pe ≤ 3) : peOK pe = true := by unfold peOK; rw [decide_eq_true h, decide_eq_true k]; rfl
theorem paOK_no {pa : Int} (h : pa < 1 ∨ 255 < pa) : paOK pa = false := by
  unfold paOK
  rcases h with h | h
  · rw [decide_eq_false (p := 1 ≤ pa) (by omega)]; rfl
  · rw [decide_eq_false (p := pa ≤ 255) (by omega), Bool.and_false]
theorem paOK_yes {pa : Int} (h : 1 ≤ pa) (k : pa ≤ 255) : paOK pa = true := by unfold paOK; rw [decide_eq_true h, decide_eq_true k]; rfl

end Go.Proofs.YtgkiknfpcbcnnabGreat

namespace Go.Proofs.YtgkiknfpcbcnnabGreat
open Go.RowKit
set_option maxRecDepth 20000

end Go.Proofs.YtgkiknfpcbcnnabGreat
