import Derived.Test.YtkdcjcemeipkjaaMat4
namespace Go.Proofs.Ytkdcjcemeipkjaa
open Go.RowKit
set_option maxRecDepth 20000

set_option maxHeartbeats 1600000 in
theorem term_num (an wd : Bool) (op vl k v : Int) (w : World) (hk : (k == 5) = false) (o0 : 0 ≤ op) (o1 : op ≤ 7) :
    Calls Try.prog 79 #[.int .i64 k, .agg #[.bool an, .bool wd, .int .i64 op, .int .i64 vl], .int .i64 v] w fun e w' => e = .returned (.bool (tH op vl v)) ∧ Below w.heap.size w w' := by
  have ho : op = 0 ∨ op = 1 ∨ op = 2 ∨ op = 3 ∨ op = 4 ∨ op = 5 ∨ op = 6 ∨ op = 7 := by omega
  have hv : v < vl ∨ v = vl ∨ vl < v := by omega
  rcases hv with hv | rfl | hv
  · have d1 : decide (v < vl) = true := by simpa using hv
    have d2 : decide (vl < v) = false := by simp; omega
    have d3 : (v == vl) = false := by simp; omega
    have d4 : ¬ v = vl := by omega
    rcases ho with rfl | rfl | rfl | rfl | rfl | rfl | rfl | rfl
    all_goals
      unfold tH
      rw [d1, d2, decide_eq_false d4]
      clear d4
      go_enter Try.func79, Try.ntmps79
      go_wp2
      go_ret
      exact ⟨rfl, below_alloc _ _⟩
  · have d1 : decide (v < v) = false := by simp
    have d3 : (v == v) = true := by simp
    rcases ho with rfl | rfl | rfl | rfl | rfl | rfl | rfl | rfl
    all_goals
      unfold tH
      rw [d1]
      go_enter Try.func79, Try.ntmps79
      go_wp2
      go_ret
      exact ⟨rfl, below_alloc _ _⟩
  · have d1 : decide (v < vl) = false := by simp; omega
    have d2 : decide (vl < v) = true := by simpa using hv
    have d3 : (v == vl) = false := by simp; omega
    have d4 : ¬ v = vl := by omega
    rcases ho with rfl | rfl | rfl | rfl | rfl | rfl | rfl | rfl
    all_goals
      unfold tH
      rw [d1, d2, decide_eq_false d4]
      clear d4
      go_enter Try.func79, Try.ntmps79
      go_wp2
      go_ret
      exact ⟨rfl, below_alloc _ _⟩
end Go.Proofs.Ytkdcjcemeipkjaa
