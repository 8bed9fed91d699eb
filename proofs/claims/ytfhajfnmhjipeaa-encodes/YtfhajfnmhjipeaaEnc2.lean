import Derived.Test.YtfhajfnmhjipeaaEnc
import Derived.WalkSmall
namespace Go.Proofs.Ytfhajfnmhjipeaa
open Go.RowKit

def isT (k : Int) (t : Tm) : Bool := !(t.wd && decide (k = 5)) && decide (0 ≤ t.op) && decide (t.op ≤ opM k) && decide (0 ≤ t.vl) && decide (t.vl ≤ mxV t.wd)

theorem isTerm_wide (an : Bool) (op vl : Int) (w : World) :
    Calls Try.prog 50 #[.agg #[.bool an, .bool true, .int .i64 op, .int .i64 vl], .int .i64 5] w fun e w' => e = .returned (.bool false) ∧ Below w.heap.size w w' := by
  go_enter Try.func50, Try.ntmps50
  go_wp2
  go_ret
  exact ⟨rfl, (Below.refl _ _).alloc (Nat.le_refl _) _⟩

set_option maxHeartbeats 800000 in
theorem isTerm_f1 (an : Bool) (op vl k : Int) (w : World) (o0 : op < 0) :
    Calls Try.prog 50 #[.agg #[.bool an, .bool false, .int .i64 op, .int .i64 vl], .int .i64 k] w fun e w' => e = .returned (.bool (false)) ∧ Below w.heap.size w w' := by
  have d0 : decide (op < 0) = true := by simpa using o0
  go_enter Try.func50, Try.ntmps50
  go_wp2_with fail
  go_quiet ((go_at_call 47; exact Calls.quiet_of_same ((opMarks_any _ _).mono fun _ _ h => ⟨h.1, h.2.symm⟩)))
  go_wp2_with fail
  go_ret
  exact ⟨rfl, below_drewN (below_alloc _ _) _⟩

set_option maxHeartbeats 800000 in
theorem isTerm_f2 (an : Bool) (op vl k : Int) (w : World) (o0 : 0 ≤ op) (o1 : opM k < op) :
    Calls Try.prog 50 #[.agg #[.bool an, .bool false, .int .i64 op, .int .i64 vl], .int .i64 k] w fun e w' => e = .returned (.bool (false)) ∧ Below w.heap.size w w' := by
  have d0 : decide (op < 0) = false := by simpa using o0
  have d1 : decide (opM k < op) = true := by simpa using o1
  go_enter Try.func50, Try.ntmps50
  go_wp2_with fail
  go_quiet ((go_at_call 47; exact Calls.quiet_of_same ((opMarks_any _ _).mono fun _ _ h => ⟨h.1, h.2.symm⟩)))
  go_wp2_with fail
  go_ret
  exact ⟨rfl, below_drewN (below_alloc _ _) _⟩

set_option maxHeartbeats 800000 in
theorem isTerm_f3 (an : Bool) (op vl k : Int) (w : World) (o0 : 0 ≤ op) (o1 : op ≤ opM k) (v0 : vl < 0) :
    Calls Try.prog 50 #[.agg #[.bool an, .bool false, .int .i64 op, .int .i64 vl], .int .i64 k] w fun e w' => e = .returned (.bool (false)) ∧ Below w.heap.size w w' := by
  have d0 : decide (op < 0) = false := by simpa using o0
  have d1 : decide (opM k < op) = false := by simpa using o1
  have d2 : decide (0 ≤ vl) = false := by simp; omega
  go_enter Try.func50, Try.ntmps50
  go_wp2_with fail
  go_quiet ((go_at_call 47; exact Calls.quiet_of_same ((opMarks_any _ _).mono fun _ _ h => ⟨h.1, h.2.symm⟩)))
  go_wp2_with fail
  go_quiet ((go_at_call 51; exact (maxValue_any _ _).mono fun _ _ h => ⟨h.1, _, h.2.symm⟩))
  go_wp2_with fail
  go_ret
  exact ⟨rfl, below_drewN (below_drewN (below_alloc _ _) _) _⟩

set_option maxHeartbeats 800000 in
theorem isTerm_f4 (an : Bool) (op vl k : Int) (w : World) (o0 : 0 ≤ op) (o1 : op ≤ opM k) (v0 : 0 ≤ vl) :
    Calls Try.prog 50 #[.agg #[.bool an, .bool false, .int .i64 op, .int .i64 vl], .int .i64 k] w fun e w' => e = .returned (.bool (decide (vl ≤ mxV false))) ∧ Below w.heap.size w w' := by
  have d0 : decide (op < 0) = false := by simpa using o0
  have d1 : decide (opM k < op) = false := by simpa using o1
  have d2 : decide (0 ≤ vl) = true := by simpa using v0
  cases hd : decide (vl ≤ mxV false)
  all_goals
    go_enter Try.func50, Try.ntmps50
    go_wp2_with fail
    go_quiet ((go_at_call 47; exact Calls.quiet_of_same ((opMarks_any _ _).mono fun _ _ h => ⟨h.1, h.2.symm⟩)))
    go_wp2_with fail
    go_quiet ((go_at_call 51; exact (maxValue_any _ _).mono fun _ _ h => ⟨h.1, _, h.2.symm⟩))
    go_wp2_with fail
    go_ret
    exact ⟨rfl, below_drewN (below_drewN (below_alloc _ _) _) _⟩

set_option maxHeartbeats 800000 in
theorem isTerm_t1 (an : Bool) (op vl k : Int) (w : World) (hk : (k == 5) = false) (o0 : op < 0) :
    Calls Try.prog 50 #[.agg #[.bool an, .bool true, .int .i64 op, .int .i64 vl], .int .i64 k] w fun e w' => e = .returned (.bool (false)) ∧ Below w.heap.size w w' := by
  have d0 : decide (op < 0) = true := by simpa using o0
  go_enter Try.func50, Try.ntmps50
  go_wp2_with fail
  go_quiet ((go_at_call 47; exact Calls.quiet_of_same ((opMarks_any _ _).mono fun _ _ h => ⟨h.1, h.2.symm⟩)))
  go_wp2_with fail
  go_ret
  exact ⟨rfl, below_drewN (below_alloc _ _) _⟩

set_option maxHeartbeats 800000 in
theorem isTerm_t2 (an : Bool) (op vl k : Int) (w : World) (hk : (k == 5) = false) (o0 : 0 ≤ op) (o1 : opM k < op) :
    Calls Try.prog 50 #[.agg #[.bool an, .bool true, .int .i64 op, .int .i64 vl], .int .i64 k] w fun e w' => e = .returned (.bool (false)) ∧ Below w.heap.size w w' := by
  have d0 : decide (op < 0) = false := by simpa using o0
  have d1 : decide (opM k < op) = true := by simpa using o1
  go_enter Try.func50, Try.ntmps50
  go_wp2_with fail
  go_quiet ((go_at_call 47; exact Calls.quiet_of_same ((opMarks_any _ _).mono fun _ _ h => ⟨h.1, h.2.symm⟩)))
  go_wp2_with fail
  go_ret
  exact ⟨rfl, below_drewN (below_alloc _ _) _⟩

set_option maxHeartbeats 800000 in
theorem isTerm_t3 (an : Bool) (op vl k : Int) (w : World) (hk : (k == 5) = false) (o0 : 0 ≤ op) (o1 : op ≤ opM k) (v0 : vl < 0) :
    Calls Try.prog 50 #[.agg #[.bool an, .bool true, .int .i64 op, .int .i64 vl], .int .i64 k] w fun e w' => e = .returned (.bool (false)) ∧ Below w.heap.size w w' := by
  have d0 : decide (op < 0) = false := by simpa using o0
  have d1 : decide (opM k < op) = false := by simpa using o1
  have d2 : decide (0 ≤ vl) = false := by simp; omega
  go_enter Try.func50, Try.ntmps50
  go_wp2_with fail
  go_quiet ((go_at_call 47; exact Calls.quiet_of_same ((opMarks_any _ _).mono fun _ _ h => ⟨h.1, h.2.symm⟩)))
  go_wp2_with fail
  go_quiet ((go_at_call 51; exact (maxValue_any _ _).mono fun _ _ h => ⟨h.1, _, h.2.symm⟩))
  go_wp2_with fail
  go_ret
  exact ⟨rfl, below_drewN (below_drewN (below_alloc _ _) _) _⟩

set_option maxHeartbeats 800000 in
theorem isTerm_t4 (an : Bool) (op vl k : Int) (w : World) (hk : (k == 5) = false) (o0 : 0 ≤ op) (o1 : op ≤ opM k) (v0 : 0 ≤ vl) :
    Calls Try.prog 50 #[.agg #[.bool an, .bool true, .int .i64 op, .int .i64 vl], .int .i64 k] w fun e w' => e = .returned (.bool (decide (vl ≤ mxV true))) ∧ Below w.heap.size w w' := by
  have d0 : decide (op < 0) = false := by simpa using o0
  have d1 : decide (opM k < op) = false := by simpa using o1
  have d2 : decide (0 ≤ vl) = true := by simpa using v0
  cases hd : decide (vl ≤ mxV true)
  all_goals
    go_enter Try.func50, Try.ntmps50
    go_wp2_with fail
    go_quiet ((go_at_call 47; exact Calls.quiet_of_same ((opMarks_any _ _).mono fun _ _ h => ⟨h.1, h.2.symm⟩)))
    go_wp2_with fail
    go_quiet ((go_at_call 51; exact (maxValue_any _ _).mono fun _ _ h => ⟨h.1, _, h.2.symm⟩))
    go_wp2_with fail
    go_ret
    exact ⟨rfl, below_drewN (below_drewN (below_alloc _ _) _) _⟩

theorem isTerm_any (t : Tm) (k : Int) (w : World) :
    Calls Try.prog 50 #[.agg #[.bool t.an, .bool t.wd, .int .i64 t.op, .int .i64 t.vl], .int .i64 k] w fun e w' => e = .returned (.bool (isT k t)) ∧ Below w.heap.size w w' := by
  obtain ⟨an, wd, op, vl⟩ := t
  simp only []
  cases wd
  · by_cases o0 : op < 0
    · have e : isT k ⟨an, false, op, vl⟩ = false := by simp [isT]; omega
      rw [e]; exact isTerm_f1 an op vl k w o0
    by_cases o1 : opM k < op
    · have e : isT k ⟨an, false, op, vl⟩ = false := by simp [isT]; omega
      rw [e]; exact isTerm_f2 an op vl k w (by omega) o1
    by_cases v0 : vl < 0
    · have e : isT k ⟨an, false, op, vl⟩ = false := by simp [isT]; omega
      rw [e]; exact isTerm_f3 an op vl k w (by omega) (by omega) v0
    · have e : isT k ⟨an, false, op, vl⟩ = decide (vl ≤ mxV false) := by simp [isT]; omega
      rw [e]; exact isTerm_f4 an op vl k w (by omega) (by omega) (by omega)
  · by_cases hk : k = 5
    · subst hk
      have e : isT 5 ⟨an, true, op, vl⟩ = false := by simp [isT]
      rw [e]; exact isTerm_wide an op vl w
    have hk' : (k == 5) = false := by simpa using hk
    by_cases o0 : op < 0
    · have e : isT k ⟨an, true, op, vl⟩ = false := by simp [isT]; omega
      rw [e]; exact isTerm_t1 an op vl k w hk' o0
    by_cases o1 : opM k < op
    · have e : isT k ⟨an, true, op, vl⟩ = false := by simp [isT]; omega
      rw [e]; exact isTerm_t2 an op vl k w hk' (by omega) o1
    by_cases v0 : vl < 0
    · have e : isT k ⟨an, true, op, vl⟩ = false := by simp [isT]; omega
      rw [e]; exact isTerm_t3 an op vl k w hk' (by omega) (by omega) v0
    · have e : isT k ⟨an, true, op, vl⟩ = decide (vl ≤ mxV true) := by simp [isT, hk]; omega
      rw [e]; exact isTerm_t4 an op vl k w hk' (by omega) (by omega) (by omega)
end Go.Proofs.Ytfhajfnmhjipeaa
