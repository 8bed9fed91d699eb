import Derived.Test.YtkdcjcemeipkjaaBack
namespace Go.Proofs.Ytkdcjcemeipkjaa
open Go.RowKit
set_option maxRecDepth 20000

set_option maxHeartbeats 400000 in
theorem prefixOK_in (b l : Int) (w : World) (h1 : 0 ≤ l) (h2 : l ≤ 16) (h3 : 0 ≤ b) (h4 : b ≤ 65535) :
    Calls Try.prog 53 #[.agg #[.int .i64 b, .int .i64 l]] w fun e w' => e = .returned (.bool (prefOK b l)) ∧ Below w.heap.size w w' := by
  have d1 : decide (l < 0) = false := by simp; omega
  have d2 : decide (16 < l) = false := by simp; omega
  have d3 : decide (b < 0) = false := by simp; omega
  have d4 : decide (65535 < b) = false := by simp; omega
  have E : Hid (prefOK b l = decide (b % 2 ^ (16 - l).toNat = 0)) := by
    show prefOK b l = _
    simp [prefOK, h1, h2, h3, h4]
  go_enter Try.func53, Try.ntmps53
  go_wp2
  go_loop [3, 4] (fun st i => ∃ (j : Nat) (P : Int), i = .int .i64 (l + j) ∧ l + j ≤ 16 ∧ st = .int .i64 P ∧ Hid (P = 2 ^ j) ∧ 1 ≤ P ∧ P ≤ 65536) (fun _ i => 16 - (intOf i).toNat)
  case atStart => exact ⟨0, 1, by simp, by omega, rfl, rfl, by omega, by omega⟩
  case round =>
    obtain ⟨j, P, rfl, hj, rfl, hP, p1, p2⟩ := hrel
    by_cases hlt : l + (j : Int) < 16
    · have hp' : P ≤ 32768 := by
        have := pow_bd (j + 1) (by omega)
        have e : P = ((2 ^ j : Nat) : Int) := by rw [hP.out]; simp
        have e2 : (2 : Nat) ^ (j + 1) = 2 ^ j * 2 := Nat.pow_succ ..
        omega
      go_wp2
      go_round
      case rel => exact ⟨j + 1, 2 * P, by go_num, by omega, rfl, by show 2 * P = _; rw [hP.out, Int.pow_succ]; omega, by omega, by omega⟩
      case measure => simp [intOf]; omega
    · have hr : Hid (prefOK b l = (b % P == 0)) := by
        show prefOK b l = _
        rw [E.out, hP.out]
        have : (16 - l).toNat = j := by omega
        rw [this]
        by_cases hz : b % 2 ^ j = 0 <;> simp [hz]
      clear E
      go_wp2
      go_ret
      exact ⟨by rw [hr.out]; rfl, below_alloc _ _⟩

theorem prefixOK_any (b l : Int) (w : World) :
    Calls Try.prog 53 #[.agg #[.int .i64 b, .int .i64 l]] w fun e w' => e = .returned (.bool (prefOK b l)) ∧ Below w.heap.size w w' := by
  by_cases h1 : l < 0
  · have e : prefOK b l = false := by unfold prefOK; simp only [Bool.and_eq_false_iff, decide_eq_false_iff_not]; omega
    rw [e]; clear e
    have d1 : decide (l < 0) = true := by simpa using h1
    go_enter Try.func53, Try.ntmps53
    go_wp2
    go_ret
    exact ⟨rfl, below_alloc _ _⟩
  have d1 : decide (l < 0) = false := by simpa using h1
  by_cases h2 : 16 < l
  · have e : prefOK b l = false := by unfold prefOK; simp only [Bool.and_eq_false_iff, decide_eq_false_iff_not]; omega
    rw [e]; clear e
    have d2 : decide (16 < l) = true := by simpa using h2
    go_enter Try.func53, Try.ntmps53
    go_wp2
    go_ret
    exact ⟨rfl, below_alloc _ _⟩
  have d2 : decide (16 < l) = false := by simpa using h2
  by_cases h3 : b < 0
  · have e : prefOK b l = false := by unfold prefOK; simp only [Bool.and_eq_false_iff, decide_eq_false_iff_not]; omega
    rw [e]; clear e
    have d3 : decide (b < 0) = true := by simpa using h3
    go_enter Try.func53, Try.ntmps53
    go_wp2
    go_ret
    exact ⟨rfl, below_alloc _ _⟩
  have d3 : decide (b < 0) = false := by simpa using h3
  by_cases h4 : 65535 < b
  · have e : prefOK b l = false := by unfold prefOK; simp only [Bool.and_eq_false_iff, decide_eq_false_iff_not]; omega
    rw [e]; clear e
    have d4 : decide (65535 < b) = true := by simpa using h4
    go_enter Try.func53, Try.ntmps53
    go_wp2
    go_ret
    exact ⟨rfl, below_alloc _ _⟩
  exact prefixOK_in b l w (by omega) (by omega) (by omega) (by omega)

theorem termOK_first (k op vl : Int) (wd : Bool) (w : World) :
    Calls Try.prog 54 #[.int .i64 k, .agg #[.bool true, .bool wd, .int .i64 op, .int .i64 vl], .bool true] w fun e w' => e = .returned (.bool false) ∧ Below w.heap.size w w' := by
  go_enter Try.func54, Try.ntmps54
  go_wp2
  go_ret
  exact ⟨rfl, below_alloc _ _⟩

set_option maxHeartbeats 400000 in
theorem termOK_5w (k op vl : Int) (an f : Bool) (w : World) (haf : (an && f) = false) (hk : k = 5) :
    Calls Try.prog 54 #[.int .i64 k, .agg #[.bool an, .bool true, .int .i64 op, .int .i64 vl], .bool f] w fun e w' => e = .returned (.bool (false)) ∧ Below w.heap.size w w' := by
  have hk' : (k == 5) = true := by simpa using hk
  cases an <;> cases f <;> first | (exact absurd haf (by decide)) | skip
  all_goals
    go_enter Try.func54, Try.ntmps54
    go_wp2
    go_ret
    exact ⟨rfl, below_alloc _ _⟩

set_option maxHeartbeats 400000 in
theorem termOK_51 (k op vl : Int) (an f : Bool) (w : World) (haf : (an && f) = false) (hk : k = 5) (h : op < 0) :
    Calls Try.prog 54 #[.int .i64 k, .agg #[.bool an, .bool false, .int .i64 op, .int .i64 vl], .bool f] w fun e w' => e = .returned (.bool (false)) ∧ Below w.heap.size w w' := by
  have hk' : (k == 5) = true := by simpa using hk
  have d1 : decide (0 ≤ op) = false := by simp; omega
  cases an <;> cases f <;> first | (exact absurd haf (by decide)) | skip
  all_goals
    go_enter Try.func54, Try.ntmps54
    go_wp2
    go_ret
    exact ⟨rfl, below_alloc _ _⟩

set_option maxHeartbeats 400000 in
theorem termOK_52 (k op vl : Int) (an f : Bool) (w : World) (haf : (an && f) = false) (hk : k = 5) (h1 : 0 ≤ op) (h : 3 < op) :
    Calls Try.prog 54 #[.int .i64 k, .agg #[.bool an, .bool false, .int .i64 op, .int .i64 vl], .bool f] w fun e w' => e = .returned (.bool (false)) ∧ Below w.heap.size w w' := by
  have hk' : (k == 5) = true := by simpa using hk
  have d1 : decide (0 ≤ op) = true := by simp; omega
  have d2 : decide (op ≤ 3) = false := by simp; omega
  cases an <;> cases f <;> first | (exact absurd haf (by decide)) | skip
  all_goals
    go_enter Try.func54, Try.ntmps54
    go_wp2
    go_ret
    exact ⟨rfl, below_alloc _ _⟩

set_option maxHeartbeats 400000 in
theorem termOK_53 (k op vl : Int) (an f : Bool) (w : World) (haf : (an && f) = false) (hk : k = 5) (h1 : 0 ≤ op) (h2 : op ≤ 3) (h : vl < 0) :
    Calls Try.prog 54 #[.int .i64 k, .agg #[.bool an, .bool false, .int .i64 op, .int .i64 vl], .bool f] w fun e w' => e = .returned (.bool (false)) ∧ Below w.heap.size w w' := by
  have hk' : (k == 5) = true := by simpa using hk
  have d1 : decide (0 ≤ op) = true := by simp; omega
  have d2 : decide (op ≤ 3) = true := by simp; omega
  have d3 : decide (0 ≤ vl) = false := by simp; omega
  cases an <;> cases f <;> first | (exact absurd haf (by decide)) | skip
  all_goals
    go_enter Try.func54, Try.ntmps54
    go_wp2
    go_ret
    exact ⟨rfl, below_alloc _ _⟩

set_option maxHeartbeats 400000 in
theorem termOK_54 (k op vl : Int) (an f : Bool) (w : World) (haf : (an && f) = false) (hk : k = 5) (h1 : 0 ≤ op) (h2 : op ≤ 3) (h3 : 0 ≤ vl) (h : 255 < vl) :
    Calls Try.prog 54 #[.int .i64 k, .agg #[.bool an, .bool false, .int .i64 op, .int .i64 vl], .bool f] w fun e w' => e = .returned (.bool (false)) ∧ Below w.heap.size w w' := by
  have hk' : (k == 5) = true := by simpa using hk
  have d1 : decide (0 ≤ op) = true := by simp; omega
  have d2 : decide (op ≤ 3) = true := by simp; omega
  have d3 : decide (0 ≤ vl) = true := by simp; omega
  have d4 : decide (vl ≤ 255) = false := by simp; omega
  cases an <;> cases f <;> first | (exact absurd haf (by decide)) | skip
  all_goals
    go_enter Try.func54, Try.ntmps54
    go_wp2
    go_ret
    exact ⟨rfl, below_alloc _ _⟩

set_option maxHeartbeats 400000 in
theorem termOK_55 (k op vl : Int) (an f : Bool) (w : World) (haf : (an && f) = false) (hk : k = 5) (h1 : 0 ≤ op) (h2 : op ≤ 3) (h3 : 0 ≤ vl) (h : vl ≤ 255) :
    Calls Try.prog 54 #[.int .i64 k, .agg #[.bool an, .bool false, .int .i64 op, .int .i64 vl], .bool f] w fun e w' => e = .returned (.bool (true)) ∧ Below w.heap.size w w' := by
  have hk' : (k == 5) = true := by simpa using hk
  have d1 : decide (0 ≤ op) = true := by simp; omega
  have d2 : decide (op ≤ 3) = true := by simp; omega
  have d3 : decide (0 ≤ vl) = true := by simp; omega
  have d4 : decide (vl ≤ 255) = true := by simp; omega
  cases an <;> cases f <;> first | (exact absurd haf (by decide)) | skip
  all_goals
    go_enter Try.func54, Try.ntmps54
    go_wp2
    go_ret
    exact ⟨rfl, below_alloc _ _⟩

set_option maxHeartbeats 400000 in
theorem termOK_f1 (k op vl : Int) (an f : Bool) (w : World) (haf : (an && f) = false) (hk : k ≠ 5) (h : op < 0) :
    Calls Try.prog 54 #[.int .i64 k, .agg #[.bool an, .bool false, .int .i64 op, .int .i64 vl], .bool f] w fun e w' => e = .returned (.bool (false)) ∧ Below w.heap.size w w' := by
  have hk' : (k == 5) = false := by simpa using hk
  have d1 : decide (0 ≤ op) = false := by simp; omega
  cases an <;> cases f <;> first | (exact absurd haf (by decide)) | skip
  all_goals
    go_enter Try.func54, Try.ntmps54
    go_wp2
    go_ret
    exact ⟨rfl, below_alloc _ _⟩

set_option maxHeartbeats 400000 in
theorem termOK_f2 (k op vl : Int) (an f : Bool) (w : World) (haf : (an && f) = false) (hk : k ≠ 5) (h1 : 0 ≤ op) (h : 7 < op) :
    Calls Try.prog 54 #[.int .i64 k, .agg #[.bool an, .bool false, .int .i64 op, .int .i64 vl], .bool f] w fun e w' => e = .returned (.bool (false)) ∧ Below w.heap.size w w' := by
  have hk' : (k == 5) = false := by simpa using hk
  have d1 : decide (0 ≤ op) = true := by simp; omega
  have d2 : decide (op ≤ 7) = false := by simp; omega
  cases an <;> cases f <;> first | (exact absurd haf (by decide)) | skip
  all_goals
    go_enter Try.func54, Try.ntmps54
    go_wp2
    go_ret
    exact ⟨rfl, below_alloc _ _⟩

set_option maxHeartbeats 400000 in
theorem termOK_f3 (k op vl : Int) (an f : Bool) (w : World) (haf : (an && f) = false) (hk : k ≠ 5) (h1 : 0 ≤ op) (h2 : op ≤ 7) (h : vl < 0) :
    Calls Try.prog 54 #[.int .i64 k, .agg #[.bool an, .bool false, .int .i64 op, .int .i64 vl], .bool f] w fun e w' => e = .returned (.bool (false)) ∧ Below w.heap.size w w' := by
  have hk' : (k == 5) = false := by simpa using hk
  have d1 : decide (0 ≤ op) = true := by simp; omega
  have d2 : decide (op ≤ 7) = true := by simp; omega
  have d3 : decide (0 ≤ vl) = false := by simp; omega
  cases an <;> cases f <;> first | (exact absurd haf (by decide)) | skip
  all_goals
    go_enter Try.func54, Try.ntmps54
    go_wp2
    go_ret
    exact ⟨rfl, below_alloc _ _⟩

set_option maxHeartbeats 400000 in
theorem termOK_f4 (k op vl : Int) (an f : Bool) (w : World) (haf : (an && f) = false) (hk : k ≠ 5) (h1 : 0 ≤ op) (h2 : op ≤ 7) (h3 : 0 ≤ vl) (h : 255 < vl) :
    Calls Try.prog 54 #[.int .i64 k, .agg #[.bool an, .bool false, .int .i64 op, .int .i64 vl], .bool f] w fun e w' => e = .returned (.bool (false)) ∧ Below w.heap.size w w' := by
  have hk' : (k == 5) = false := by simpa using hk
  have d1 : decide (0 ≤ op) = true := by simp; omega
  have d2 : decide (op ≤ 7) = true := by simp; omega
  have d3 : decide (0 ≤ vl) = true := by simp; omega
  have d4 : decide (vl ≤ 255) = false := by simp; omega
  cases an <;> cases f <;> first | (exact absurd haf (by decide)) | skip
  all_goals
    go_enter Try.func54, Try.ntmps54
    go_wp2
    go_ret
    exact ⟨rfl, below_alloc _ _⟩

set_option maxHeartbeats 400000 in
theorem termOK_f5 (k op vl : Int) (an f : Bool) (w : World) (haf : (an && f) = false) (hk : k ≠ 5) (h1 : 0 ≤ op) (h2 : op ≤ 7) (h3 : 0 ≤ vl) (h : vl ≤ 255) :
    Calls Try.prog 54 #[.int .i64 k, .agg #[.bool an, .bool false, .int .i64 op, .int .i64 vl], .bool f] w fun e w' => e = .returned (.bool (true)) ∧ Below w.heap.size w w' := by
  have hk' : (k == 5) = false := by simpa using hk
  have d1 : decide (0 ≤ op) = true := by simp; omega
  have d2 : decide (op ≤ 7) = true := by simp; omega
  have d3 : decide (0 ≤ vl) = true := by simp; omega
  have d4 : decide (vl ≤ 255) = true := by simp; omega
  cases an <;> cases f <;> first | (exact absurd haf (by decide)) | skip
  all_goals
    go_enter Try.func54, Try.ntmps54
    go_wp2
    go_ret
    exact ⟨rfl, below_alloc _ _⟩

set_option maxHeartbeats 400000 in
theorem termOK_t1 (k op vl : Int) (an f : Bool) (w : World) (haf : (an && f) = false) (hk : k ≠ 5) (h : op < 0) :
    Calls Try.prog 54 #[.int .i64 k, .agg #[.bool an, .bool true, .int .i64 op, .int .i64 vl], .bool f] w fun e w' => e = .returned (.bool (false)) ∧ Below w.heap.size w w' := by
  have hk' : (k == 5) = false := by simpa using hk
  have d1 : decide (0 ≤ op) = false := by simp; omega
  cases an <;> cases f <;> first | (exact absurd haf (by decide)) | skip
  all_goals
    go_enter Try.func54, Try.ntmps54
    go_wp2
    go_ret
    exact ⟨rfl, below_alloc _ _⟩

set_option maxHeartbeats 400000 in
theorem termOK_t2 (k op vl : Int) (an f : Bool) (w : World) (haf : (an && f) = false) (hk : k ≠ 5) (h1 : 0 ≤ op) (h : 7 < op) :
    Calls Try.prog 54 #[.int .i64 k, .agg #[.bool an, .bool true, .int .i64 op, .int .i64 vl], .bool f] w fun e w' => e = .returned (.bool (false)) ∧ Below w.heap.size w w' := by
  have hk' : (k == 5) = false := by simpa using hk
  have d1 : decide (0 ≤ op) = true := by simp; omega
  have d2 : decide (op ≤ 7) = false := by simp; omega
  cases an <;> cases f <;> first | (exact absurd haf (by decide)) | skip
  all_goals
    go_enter Try.func54, Try.ntmps54
    go_wp2
    go_ret
    exact ⟨rfl, below_alloc _ _⟩

set_option maxHeartbeats 400000 in
theorem termOK_t3 (k op vl : Int) (an f : Bool) (w : World) (haf : (an && f) = false) (hk : k ≠ 5) (h1 : 0 ≤ op) (h2 : op ≤ 7) (h : vl < 0) :
    Calls Try.prog 54 #[.int .i64 k, .agg #[.bool an, .bool true, .int .i64 op, .int .i64 vl], .bool f] w fun e w' => e = .returned (.bool (false)) ∧ Below w.heap.size w w' := by
  have hk' : (k == 5) = false := by simpa using hk
  have d1 : decide (0 ≤ op) = true := by simp; omega
  have d2 : decide (op ≤ 7) = true := by simp; omega
  have d3 : decide (0 ≤ vl) = false := by simp; omega
  cases an <;> cases f <;> first | (exact absurd haf (by decide)) | skip
  all_goals
    go_enter Try.func54, Try.ntmps54
    go_wp2
    go_ret
    exact ⟨rfl, below_alloc _ _⟩

set_option maxHeartbeats 400000 in
theorem termOK_t4 (k op vl : Int) (an f : Bool) (w : World) (haf : (an && f) = false) (hk : k ≠ 5) (h1 : 0 ≤ op) (h2 : op ≤ 7) (h3 : 0 ≤ vl) (h : 65535 < vl) :
    Calls Try.prog 54 #[.int .i64 k, .agg #[.bool an, .bool true, .int .i64 op, .int .i64 vl], .bool f] w fun e w' => e = .returned (.bool (false)) ∧ Below w.heap.size w w' := by
  have hk' : (k == 5) = false := by simpa using hk
  have d1 : decide (0 ≤ op) = true := by simp; omega
  have d2 : decide (op ≤ 7) = true := by simp; omega
  have d3 : decide (0 ≤ vl) = true := by simp; omega
  have d4 : decide (vl ≤ 65535) = false := by simp; omega
  cases an <;> cases f <;> first | (exact absurd haf (by decide)) | skip
  all_goals
    go_enter Try.func54, Try.ntmps54
    go_wp2
    go_ret
    exact ⟨rfl, below_alloc _ _⟩

set_option maxHeartbeats 400000 in
theorem termOK_t5 (k op vl : Int) (an f : Bool) (w : World) (haf : (an && f) = false) (hk : k ≠ 5) (h1 : 0 ≤ op) (h2 : op ≤ 7) (h3 : 0 ≤ vl) (h : vl ≤ 65535) :
    Calls Try.prog 54 #[.int .i64 k, .agg #[.bool an, .bool true, .int .i64 op, .int .i64 vl], .bool f] w fun e w' => e = .returned (.bool (true)) ∧ Below w.heap.size w w' := by
  have hk' : (k == 5) = false := by simpa using hk
  have d1 : decide (0 ≤ op) = true := by simp; omega
  have d2 : decide (op ≤ 7) = true := by simp; omega
  have d3 : decide (0 ≤ vl) = true := by simp; omega
  have d4 : decide (vl ≤ 65535) = true := by simp; omega
  cases an <;> cases f <;> first | (exact absurd haf (by decide)) | skip
  all_goals
    go_enter Try.func54, Try.ntmps54
    go_wp2
    go_ret
    exact ⟨rfl, below_alloc _ _⟩

theorem termOK_any (k : Int) (t : Tm) (f : Bool) (w : World) :
    Calls Try.prog 54 #[.int .i64 k, .agg #[.bool t.an, .bool t.wd, .int .i64 t.op, .int .i64 t.vl], .bool f] w fun e w' => e = .returned (.bool (!(t.an && f) && isT k t)) ∧ Below w.heap.size w w' := by
  obtain ⟨an, wd, op, vl⟩ := t
  dsimp only
  cases haf : (an && f)
  · simp only [Bool.not_false, Bool.true_and]
    by_cases hk : k = 5
    · have e : isT k ⟨an, wd, op, vl⟩ = (!wd && decide (0 ≤ op) && decide (op ≤ 3) && decide (0 ≤ vl) && decide (vl ≤ mxV wd)) := by simp [isT, opM, hk]
      rw [e]
      cases wd
      · by_cases h1 : op < 0
        · have e2 : (!false && decide (0 ≤ op) && decide (op ≤ 3) && decide (0 ≤ vl) && decide (vl ≤ mxV false)) = false := by simp; omega
          rw [e2]; exact termOK_51 k op vl an f w haf hk h1
        by_cases h2 : 3 < op
        · have e2 : (!false && decide (0 ≤ op) && decide (op ≤ 3) && decide (0 ≤ vl) && decide (vl ≤ mxV false)) = false := by simp; omega
          rw [e2]; exact termOK_52 k op vl an f w haf hk (by omega) h2
        by_cases h3 : vl < 0
        · have e2 : (!false && decide (0 ≤ op) && decide (op ≤ 3) && decide (0 ≤ vl) && decide (vl ≤ mxV false)) = false := by simp; omega
          rw [e2]; exact termOK_53 k op vl an f w haf hk (by omega) (by omega) h3
        by_cases h4 : 255 < vl
        · have e2 : (!false && decide (0 ≤ op) && decide (op ≤ 3) && decide (0 ≤ vl) && decide (vl ≤ mxV false)) = false := by simp [mxV]; omega
          rw [e2]; exact termOK_54 k op vl an f w haf hk (by omega) (by omega) (by omega) h4
        · have e2 : (!false && decide (0 ≤ op) && decide (op ≤ 3) && decide (0 ≤ vl) && decide (vl ≤ mxV false)) = true := by simp [mxV]; omega
          rw [e2]; exact termOK_55 k op vl an f w haf hk (by omega) (by omega) (by omega) (by omega)
      · simp only [Bool.not_true, Bool.false_and]
        exact termOK_5w k op vl an f w haf hk
    · have e : isT k ⟨an, wd, op, vl⟩ = (decide (0 ≤ op) && decide (op ≤ 7) && decide (0 ≤ vl) && decide (vl ≤ mxV wd)) := by simp [isT, opM, hk]
      rw [e]
      cases wd
      · by_cases h1 : op < 0
        · have e2 : (decide (0 ≤ op) && decide (op ≤ 7) && decide (0 ≤ vl) && decide (vl ≤ mxV false)) = false := by simp; omega
          rw [e2]; exact termOK_f1 k op vl an f w haf hk h1
        by_cases h2 : 7 < op
        · have e2 : (decide (0 ≤ op) && decide (op ≤ 7) && decide (0 ≤ vl) && decide (vl ≤ mxV false)) = false := by simp; omega
          rw [e2]; exact termOK_f2 k op vl an f w haf hk (by omega) h2
        by_cases h3 : vl < 0
        · have e2 : (decide (0 ≤ op) && decide (op ≤ 7) && decide (0 ≤ vl) && decide (vl ≤ mxV false)) = false := by simp; omega
          rw [e2]; exact termOK_f3 k op vl an f w haf hk (by omega) (by omega) h3
        by_cases h4 : 255 < vl
        · have e2 : (decide (0 ≤ op) && decide (op ≤ 7) && decide (0 ≤ vl) && decide (vl ≤ mxV false)) = false := by simp [mxV]; omega
          rw [e2]; exact termOK_f4 k op vl an f w haf hk (by omega) (by omega) (by omega) h4
        · have e2 : (decide (0 ≤ op) && decide (op ≤ 7) && decide (0 ≤ vl) && decide (vl ≤ mxV false)) = true := by simp [mxV]; omega
          rw [e2]; exact termOK_f5 k op vl an f w haf hk (by omega) (by omega) (by omega) (by omega)
      · by_cases h1 : op < 0
        · have e2 : (decide (0 ≤ op) && decide (op ≤ 7) && decide (0 ≤ vl) && decide (vl ≤ mxV true)) = false := by simp; omega
          rw [e2]; exact termOK_t1 k op vl an f w haf hk h1
        by_cases h2 : 7 < op
        · have e2 : (decide (0 ≤ op) && decide (op ≤ 7) && decide (0 ≤ vl) && decide (vl ≤ mxV true)) = false := by simp; omega
          rw [e2]; exact termOK_t2 k op vl an f w haf hk (by omega) h2
        by_cases h3 : vl < 0
        · have e2 : (decide (0 ≤ op) && decide (op ≤ 7) && decide (0 ≤ vl) && decide (vl ≤ mxV true)) = false := by simp; omega
          rw [e2]; exact termOK_t3 k op vl an f w haf hk (by omega) (by omega) h3
        by_cases h4 : 65535 < vl
        · have e2 : (decide (0 ≤ op) && decide (op ≤ 7) && decide (0 ≤ vl) && decide (vl ≤ mxV true)) = false := by simp [mxV]; omega
          rw [e2]; exact termOK_t4 k op vl an f w haf hk (by omega) (by omega) (by omega) h4
        · have e2 : (decide (0 ≤ op) && decide (op ≤ 7) && decide (0 ≤ vl) && decide (vl ≤ mxV true)) = true := by simp [mxV]; omega
          rw [e2]; exact termOK_t5 k op vl an f w haf hk (by omega) (by omega) (by omega) (by omega)
  · simp only [Bool.not_true, Bool.false_and]
    have ha : an = true ∧ f = true := by simpa using haf
    obtain ⟨rfl, rfl⟩ := ha
    exact termOK_first k op vl wd w
end Go.Proofs.Ytkdcjcemeipkjaa
