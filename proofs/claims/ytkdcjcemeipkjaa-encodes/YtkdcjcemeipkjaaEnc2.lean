import Derived.Test.YtkdcjcemeipkjaaEnc
import Derived.WalkSmall
namespace Go.Proofs.Ytkdcjcemeipkjaa
open Go.RowKit
set_option maxRecDepth 20000

def isT (k : Int) (t : Tm) : Bool := !(t.wd && decide (k = 5)) && decide (0 ≤ t.op) && decide (t.op ≤ opM k) && decide (0 ≤ t.vl) && decide (t.vl ≤ mxV t.wd)

theorem isTerm_wide (an : Bool) (op vl : Int) (w : World) :
    Calls Try.prog 77 #[.agg #[.bool an, .bool true, .int .i64 op, .int .i64 vl], .int .i64 5] w fun e w' => e = .returned (.bool false) ∧ Below w.heap.size w w' := by
  go_enter Try.func77, Try.ntmps77
  go_wp2
  go_ret
  exact ⟨rfl, (Below.refl _ _).alloc (Nat.le_refl _) _⟩

theorem isT_eq (k : Int) (t : Tm) : isT k t = (!(t.wd && decide (k = 5)) && isN t.op (opM k) && isN t.vl (mxV t.wd)) := by
  unfold isT isN; simp only [Bool.and_assoc]

theorem isNumber_quiet {n m : Int} {b : Bool} (h : isN n m = b) (w : World) (q : Nat) : Calls Try.prog 55 #[.int .i64 n, .int .i64 m] (w.drewN q) fun e w' => e = .returned (.bool b) ∧ ∃ k, w' = w.drewN k :=
  Calls.quiet_of_same ((isNumber_any n m _).mono fun _ _ h' => ⟨by rw [h'.1, h], h'.2.symm⟩)

set_option maxHeartbeats 800000 in
theorem isTerm_f1 (an : Bool) (op vl k : Int) (w : World) (ho : isN op (opM k) = false) :
    Calls Try.prog 77 #[.agg #[.bool an, .bool false, .int .i64 op, .int .i64 vl], .int .i64 k] w fun e w' => e = .returned (.bool false) ∧ Below w.heap.size w w' := by
  go_enter Try.func77, Try.ntmps77
  go_wp2_with fail
  go_quiet (first
    | (go_at_call 68; exact Calls.quiet_of_same ((opMarks_any _ _).mono fun _ _ h => ⟨h.1, h.2.symm⟩))
    | (go_at_call 55; exact isNumber_quiet ho _ _))
  go_wp2_with fail
  go_ret
  exact ⟨rfl, below_drewN (below_alloc _ _) _⟩

set_option maxHeartbeats 800000 in
theorem isTerm_f2 (an : Bool) (op vl k : Int) (w : World) (ho : isN op (opM k) = true) (hv : isN vl (mxV false) = false) :
    Calls Try.prog 77 #[.agg #[.bool an, .bool false, .int .i64 op, .int .i64 vl], .int .i64 k] w fun e w' => e = .returned (.bool false) ∧ Below w.heap.size w w' := by
  go_enter Try.func77, Try.ntmps77
  go_wp2_with fail
  go_quiet (first
    | (go_at_call 68; exact Calls.quiet_of_same ((opMarks_any _ _).mono fun _ _ h => ⟨h.1, h.2.symm⟩))
    | (go_at_call 81; exact (maxValue_any _ _).mono fun _ _ h => ⟨h.1, _, h.2.symm⟩)
    | (go_at_call 55; exact isNumber_quiet (by assumption) _ _))
  go_wp2_with fail
  go_ret
  exact ⟨rfl, below_drewN (below_alloc _ _) _⟩

set_option maxHeartbeats 800000 in
theorem isTerm_f3 (an : Bool) (op vl k : Int) (w : World) (ho : isN op (opM k) = true) (hv : isN vl (mxV false) = true) :
    Calls Try.prog 77 #[.agg #[.bool an, .bool false, .int .i64 op, .int .i64 vl], .int .i64 k] w fun e w' => e = .returned (.bool true) ∧ Below w.heap.size w w' := by
  go_enter Try.func77, Try.ntmps77
  go_wp2_with fail
  go_quiet (first
    | (go_at_call 68; exact Calls.quiet_of_same ((opMarks_any _ _).mono fun _ _ h => ⟨h.1, h.2.symm⟩))
    | (go_at_call 81; exact (maxValue_any _ _).mono fun _ _ h => ⟨h.1, _, h.2.symm⟩)
    | (go_at_call 55; exact isNumber_quiet (by assumption) _ _))
  go_wp2_with fail
  go_ret
  exact ⟨rfl, below_drewN (below_alloc _ _) _⟩

set_option maxHeartbeats 800000 in
theorem isTerm_t1 (an : Bool) (op vl k : Int) (w : World) (hk : (k == 5) = false) (ho : isN op (opM k) = false) :
    Calls Try.prog 77 #[.agg #[.bool an, .bool true, .int .i64 op, .int .i64 vl], .int .i64 k] w fun e w' => e = .returned (.bool false) ∧ Below w.heap.size w w' := by
  go_enter Try.func77, Try.ntmps77
  go_wp2_with fail
  go_quiet (first
    | (go_at_call 68; exact Calls.quiet_of_same ((opMarks_any _ _).mono fun _ _ h => ⟨h.1, h.2.symm⟩))
    | (go_at_call 55; exact isNumber_quiet ho _ _))
  go_wp2_with fail
  go_ret
  exact ⟨rfl, below_drewN (below_alloc _ _) _⟩

set_option maxHeartbeats 800000 in
theorem isTerm_t2 (an : Bool) (op vl k : Int) (w : World) (hk : (k == 5) = false) (ho : isN op (opM k) = true) (hv : isN vl (mxV true) = false) :
    Calls Try.prog 77 #[.agg #[.bool an, .bool true, .int .i64 op, .int .i64 vl], .int .i64 k] w fun e w' => e = .returned (.bool false) ∧ Below w.heap.size w w' := by
  go_enter Try.func77, Try.ntmps77
  go_wp2_with fail
  go_quiet (first
    | (go_at_call 68; exact Calls.quiet_of_same ((opMarks_any _ _).mono fun _ _ h => ⟨h.1, h.2.symm⟩))
    | (go_at_call 81; exact (maxValue_any _ _).mono fun _ _ h => ⟨h.1, _, h.2.symm⟩)
    | (go_at_call 55; exact isNumber_quiet (by assumption) _ _))
  go_wp2_with fail
  go_ret
  exact ⟨rfl, below_drewN (below_alloc _ _) _⟩

set_option maxHeartbeats 800000 in
theorem isTerm_t3 (an : Bool) (op vl k : Int) (w : World) (hk : (k == 5) = false) (ho : isN op (opM k) = true) (hv : isN vl (mxV true) = true) :
    Calls Try.prog 77 #[.agg #[.bool an, .bool true, .int .i64 op, .int .i64 vl], .int .i64 k] w fun e w' => e = .returned (.bool true) ∧ Below w.heap.size w w' := by
  go_enter Try.func77, Try.ntmps77
  go_wp2_with fail
  go_quiet (first
    | (go_at_call 68; exact Calls.quiet_of_same ((opMarks_any _ _).mono fun _ _ h => ⟨h.1, h.2.symm⟩))
    | (go_at_call 81; exact (maxValue_any _ _).mono fun _ _ h => ⟨h.1, _, h.2.symm⟩)
    | (go_at_call 55; exact isNumber_quiet (by assumption) _ _))
  go_wp2_with fail
  go_ret
  exact ⟨rfl, below_drewN (below_alloc _ _) _⟩

theorem isTerm_any (t : Tm) (k : Int) (w : World) :
    Calls Try.prog 77 #[.agg #[.bool t.an, .bool t.wd, .int .i64 t.op, .int .i64 t.vl], .int .i64 k] w fun e w' => e = .returned (.bool (isT k t)) ∧ Below w.heap.size w w' := by
  obtain ⟨an, wd, op, vl⟩ := t
  rw [isT_eq]
  simp only []
  cases wd
  · cases ho : isN op (opM k)
    · simpa using isTerm_f1 an op vl k w ho
    · cases hv : isN vl (mxV false)
      · simpa using isTerm_f2 an op vl k w ho hv
      · simpa using isTerm_f3 an op vl k w ho hv
  · by_cases hk : k = 5
    · subst hk
      simpa using isTerm_wide an op vl w
    · have hk' : (k == 5) = false := by simpa using hk
      cases ho : isN op (opM k)
      · simpa using isTerm_t1 an op vl k w hk' ho
      · cases hv : isN vl (mxV true)
        · simpa using isTerm_t2 an op vl k w hk' ho hv
        · simpa [hk] using isTerm_t3 an op vl k w hk' ho hv

end Go.Proofs.Ytkdcjcemeipkjaa
