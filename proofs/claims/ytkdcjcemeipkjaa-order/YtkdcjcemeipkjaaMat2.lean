import Derived.Test.YtkdcjcemeipkjaaMat1
import Derived.Test.YtkdcjcemeipkjaaEnc6
namespace Go.Proofs.Ytkdcjcemeipkjaa
open Go.RowKit
set_option maxRecDepth 20000

structure Hd where
  ds : Int
  sr : Int
  pr : Int
  po : Int
  fl : Int
  la : Bool

def hdOK (h : Hd) : Bool := isN h.ds 65535 && isN h.sr 65535 && isN h.pr 255 && isN h.po 65535 && isN h.fl 255

theorem isN_bd {n m : Int} (h : isN n m = true) : 0 ≤ n ∧ n ≤ m := by
  simpa [isN] using h

set_option maxHeartbeats 800000 in
theorem isHeader_any (h : Hd) (w : World) :
    Calls Try.prog 33 #[.agg #[.int .i64 h.ds, .int .i64 h.sr, .int .i64 h.pr, .int .i64 h.po, .int .i64 h.fl, .bool h.la]] w fun e w' => e = .returned (.bool (hdOK h)) ∧ Below w.heap.size w w' := by
  obtain ⟨ds, sr, pr, po, fl, la⟩ := h
  unfold hdOK
  simp only []
  cases h1 : isN ds 65535
  · simp only [Bool.false_and]
    go_enter Try.func33, Try.ntmps33
    go_wp2_with (go_at_call 55; refine (isNumber_any _ _ _).mono ?_; rintro e w' ⟨rfl, rfl⟩; rw [h1])
    go_ret
    exact ⟨rfl, below_alloc _ _⟩
  cases h2 : isN sr 65535
  · simp only [Bool.false_and, Bool.and_false]
    go_enter Try.func33, Try.ntmps33
    go_wp2_with (go_at_call 55; refine (isNumber_any _ _ _).mono ?_; rintro e w' ⟨rfl, rfl⟩; first | rw [h1] | rw [h2])
    go_ret
    exact ⟨rfl, below_alloc _ _⟩
  cases h3 : isN pr 255
  · simp only [Bool.false_and, Bool.and_false]
    go_enter Try.func33, Try.ntmps33
    go_wp2_with (go_at_call 55; refine (isNumber_any _ _ _).mono ?_; rintro e w' ⟨rfl, rfl⟩; first | rw [h1] | rw [h2] | rw [h3])
    go_ret
    exact ⟨rfl, below_alloc _ _⟩
  cases h4 : isN po 65535
  · simp only [Bool.false_and, Bool.and_false]
    go_enter Try.func33, Try.ntmps33
    go_wp2_with (go_at_call 55; refine (isNumber_any _ _ _).mono ?_; rintro e w' ⟨rfl, rfl⟩; first | rw [h1] | rw [h2] | rw [h3] | rw [h4])
    go_ret
    exact ⟨rfl, below_alloc _ _⟩
  simp only [Bool.true_and]
  go_enter Try.func33, Try.ntmps33
  go_wp2_with (go_at_call 55; refine (isNumber_any _ _ _).mono ?_; rintro e w' ⟨rfl, rfl⟩; try (first | rw [h1] | rw [h2] | rw [h3] | rw [h4]))
  go_ret
  exact ⟨rfl, below_alloc _ _⟩

def fldV (h : Hd) (k : Int) : Int := if k = 1 then h.ds else if k = 2 then h.sr else if k = 3 then h.pr else if k = 4 then h.po else h.fl
def fldB (h : Hd) (k : Int) : Bool := if 4 ≤ k then !h.la else true

set_option maxHeartbeats 800000 in
theorem fieldOf_any (h : Hd) (k : Int) (w : World) (k0 : 1 ≤ k) (k1 : k ≤ 5) :
    Calls Try.prog 56 #[.agg #[.int .i64 h.ds, .int .i64 h.sr, .int .i64 h.pr, .int .i64 h.po, .int .i64 h.fl, .bool h.la], .int .i64 k] w fun e w' => e = .returned (.tuple #[.int .i64 (fldV h k), .bool (fldB h k)]) ∧ Below w.heap.size w w' := by
  obtain ⟨ds, sr, pr, po, fl, la⟩ := h
  have hk : k = 1 ∨ k = 2 ∨ k = 3 ∨ k = 4 ∨ k = 5 := by omega
  rcases hk with rfl | rfl | rfl | rfl | rfl
  · go_enter Try.func56, Try.ntmps56
    go_wp2
    go_ret2
    exact ⟨rfl, below_alloc _ _⟩
  · go_enter Try.func56, Try.ntmps56
    go_wp2
    go_ret2
    exact ⟨rfl, below_alloc _ _⟩
  · go_enter Try.func56, Try.ntmps56
    go_wp2
    go_ret2
    exact ⟨rfl, below_alloc _ _⟩
  · go_enter Try.func56, Try.ntmps56
    go_wp2_with fail
    go_quiet (fail)
    go_wp2
    go_ret2
    exact ⟨rfl, below_drewN (below_alloc _ _) _⟩
  · go_enter Try.func56, Try.ntmps56
    go_wp2_with fail
    go_quiet (fail)
    go_wp2
    go_ret2
    exact ⟨rfl, below_drewN (below_alloc _ _) _⟩

theorem liesIn_any (v b l : Int) (w : World) (h : prefOK b l = true) (v0 : 0 ≤ v) (v1 : v ≤ 65535) :
    Calls Try.prog 57 #[.int .i64 v, .agg #[.int .i64 b, .int .i64 l]] w fun e w' => e = .returned (.bool (lies v b l)) ∧ Below w.heap.size w w' := by
  rw [← lies_bits v b l h v0 v1]
  go_enter Try.func57, Try.ntmps57
  go_wp2_with fail
  go_quiet ((go_at_call 70; exact Calls.quiet_of_same ((bitsBehind_any _ _).mono fun _ _ h => ⟨h.1, h.2.symm⟩)))
  go_wp2_with fail
  go_ret
  exact ⟨rfl, below_drewN (below_alloc _ _) _⟩

set_option maxHeartbeats 800000 in
theorem flagsHold_any (an wd : Bool) (op vl v : Int) (w : World) (o0 : 0 ≤ op) (o1 : op ≤ 3) :
    Calls Try.prog 78 #[.agg #[.bool an, .bool wd, .int .i64 op, .int .i64 vl], .int .i64 v] w fun e w' => e = .returned (.bool (fH op vl v)) ∧ Below w.heap.size w w' := by
  have ho : op = 0 ∨ op = 1 ∨ op = 2 ∨ op = 3 := by omega
  rcases ho with rfl | rfl | rfl | rfl
  all_goals
    go_enter Try.func78, Try.ntmps78
    go_wp2
    go_ret
    exact ⟨rfl, below_alloc _ _⟩

set_option maxHeartbeats 1600000 in
theorem termHolds_num (an wd : Bool) (op vl k v : Int) (w : World) (hk : (k == 5) = false) (o0 : 0 ≤ op) (o1 : op ≤ 7) :
    Calls Try.prog 71 #[.agg #[.bool an, .bool wd, .int .i64 op, .int .i64 vl], .int .i64 k, .int .i64 v] w fun e w' => e = .returned (.bool (tH op vl v)) ∧ Below w.heap.size w w' := by
  have ho : op = 0 ∨ op = 1 ∨ op = 2 ∨ op = 3 ∨ op = 4 ∨ op = 5 ∨ op = 6 ∨ op = 7 := by omega
  have hv : v < vl ∨ v = vl ∨ vl < v := by omega
  rcases hv with hv | rfl | hv
  · have d1 : decide (v < vl) = true := by simpa using hv
    have d2 : decide (vl < v) = false := by simp; omega
    have d3 : (v == vl) = false := by simp; omega
    have d4 : ¬ v = vl := by omega
    rcases ho with rfl | rfl | rfl | rfl | rfl | rfl | rfl | rfl
    all_goals
      unfold tH
      rw [d1, d2, decide_eq_false d4]
      clear d4
      go_enter Try.func71, Try.ntmps71
      go_wp2
      go_ret
      exact ⟨rfl, below_alloc _ _⟩
  · have d1 : decide (v < v) = false := by simp
    have d3 : (v == v) = true := by simp
    rcases ho with rfl | rfl | rfl | rfl | rfl | rfl | rfl | rfl
    all_goals
      unfold tH
      rw [d1]
      go_enter Try.func71, Try.ntmps71
      go_wp2
      go_ret
      exact ⟨rfl, below_alloc _ _⟩
  · have d1 : decide (v < vl) = false := by simp; omega
    have d2 : decide (vl < v) = true := by simpa using hv
    have d3 : (v == vl) = false := by simp; omega
    have d4 : ¬ v = vl := by omega
    rcases ho with rfl | rfl | rfl | rfl | rfl | rfl | rfl | rfl
    all_goals
      unfold tH
      rw [d1, d2, decide_eq_false d4]
      clear d4
      go_enter Try.func71, Try.ntmps71
      go_wp2
      go_ret
      exact ⟨rfl, below_alloc _ _⟩
end Go.Proofs.Ytkdcjcemeipkjaa
