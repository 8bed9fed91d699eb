import Derived.Test.YtdepfhkhkocehabSeg8
import Derived.Test.YtdepfhkhkocehabGd
namespace Go.Proofs.Ytdepfhkhkocehab
open Go.RowKit
set_option maxRecDepth 20000

/-- What is announced to the gate that is played, at its beginning. -/
def r0 : Rt := ⟨0, 0, 0, 255⟩
def q0 : Rl := ⟨⟨#[1, 0]⟩, 0, 255⟩
theorem dS_all : dS ⟨#[1, 0]⟩ = [⟨1, 0, 0, []⟩] := by
  rw [all_dst]
  unfold dS
  rw [decS_complete _ (by decide)]
  rfl
theorem nS_all : nS [⟨1, 0, 0, []⟩] = 1 := by
  unfold nS
  simp [blkS]
theorem hold_all (c : Cf) : holdS c [r0] q0 = true := by
  unfold holdS q0
  simp only []
  rw [dS_all]
  simp [holdsP, who, best, bw, cutB, below, r0, netF]
theorem stats_begin {c : Cf} (h : cfOK c = true) : stats ⟨c, [r0], [q0]⟩ = [(q0, 3)] := by
  unfold cfOK at h
  simp only [isN, Bool.and_eq_true, decide_eq_true_eq] at h
  unfold stats
  have e : sortR [q0] = [q0] := rfl
  simp only [e]
  have hne : q0.tx ≠ ⟨#[]⟩ := by unfold q0; simp
  have hd : dS q0.tx = [⟨1, 0, 0, []⟩] := dS_all
  have h1 : decide (c.bu < ((1 : Nat) : Int)) = false := by simp; omega
  have h2 : decide (c.cp < 0 + ((1 : Nat) : Int)) = false := by simp; omega
  simp only [stF]
  rw [if_pos (hold_all c), if_neg hne, hd, nS_all, h1, h2]
  rfl
end Go.Proofs.Ytdepfhkhkocehab
