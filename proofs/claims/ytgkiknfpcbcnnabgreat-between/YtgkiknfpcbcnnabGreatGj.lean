import Derived.Test.YtgkiknfpcbcnnabGreatGi
namespace Go.Proofs.YtgkiknfpcbcnnabGreat
open Go.RowKit
set_option maxRecDepth 20000

/-- A digit; the low n bits of a number, the highest first. -/
def dg (x : Nat) : ByteArray := if x % 2 = 1 then ⟨#[49]⟩ else ⟨#[48]⟩
def bin (v : Nat) : Nat → ByteArray
  | 0 => ⟨#[]⟩
  | n + 1 => dg (v / 2 ^ n) ++ bin v n

theorem dg_size (x : Nat) : (dg x).size = 1 := by unfold dg; split <;> rfl
theorem bin_size (v : Nat) : ∀ n, (bin v n).size = n := by
  intro n
  induction n with
  | zero => rfl
  | succ n ih => simp only [bin, ByteArray.size_append, dg_size, ih]; omega

end Go.Proofs.YtgkiknfpcbcnnabGreat

namespace Go.Proofs.YtgkiknfpcbcnnabGreat
open Go.RowKit
set_option maxRecDepth 20000

theorem metN_bd (v vl : Nat) : ∀ n, askN vl n ≤ n ∧ metN v vl n ≤ n := by
  intro n
  have := metN_le v vl n
  have h2 : askN vl n ≤ n := by
    clear this
    induction n with
    | zero => simp [askN]
    | succ n ih => simp only [askN]; split <;> omega
  omega

theorem met_yes {v vl j : Nat} (h : vl / 2 ^ j % 2 = 1) : metN v vl (j + 1) = metN v vl j + v / 2 ^ j % 2 ∧ askN vl (j + 1) = askN vl j + 1 := by
  constructor <;> simp only [metN, askN, if_pos h]
theorem met_no {v vl j : Nat} (h : ¬ vl / 2 ^ j % 2 = 1) : metN v vl (j + 1) = metN v vl j ∧ askN vl (j + 1) = askN vl j := by
  constructor <;> simp only [metN, askN, if_neg h, Nat.add_zero]

theorem pow_cases {j : Nat} {b : Int} (hj : j ≤ 8) (h8 : ¬ j = 8) (hb : b = (2 : Int) ^ j) : (j = 0 ∧ b = 1) ∨ (j = 1 ∧ b = 2) ∨ (j = 2 ∧ b = 4) ∨ (j = 3 ∧ b = 8) ∨ (j = 4 ∧ b = 16) ∨ (j = 5 ∧ b = 32) ∨ (j = 6 ∧ b = 64) ∨ (j = 7 ∧ b = 128) := by
  subst hb
  have hc : j = 0 ∨ j = 1 ∨ j = 2 ∨ j = 3 ∨ j = 4 ∨ j = 5 ∨ j = 6 ∨ j = 7 := by omega
  rcases hc with rfl | rfl | rfl | rfl | rfl | rfl | rfl | rfl <;> decide

theorem beq_cast (m a : Nat) : ((m : Int) == (a : Int)) = decide (m = a) := by
  by_cases h : m = a
  · simp [h]
  · rw [decide_eq_false h]; exact beq_eq_false_iff_ne.2 (by omega)

end Go.Proofs.YtgkiknfpcbcnnabGreat

namespace Go.Proofs.YtgkiknfpcbcnnabGreat
open Go.RowKit
set_option maxRecDepth 20000

end Go.Proofs.YtgkiknfpcbcnnabGreat
